/-
  Pushes and pops keep the elements. No function is named.
  Package injector: what its machines keep, and what they do alone. No function is named.
-/
import Derived.Test.YtanbjdlaolgepaaEdM
import Derived.Sort.Lot0
import Derived.Test.YtanbjdlaolgepaaMgAD
namespace Go.Proofs.Ytanbjdlaolgepaa
set_option linter.unusedSimpArgs false
set_option linter.unusedVariables false

theorem hole_perm {l : List Int} {i p : Nat} {k : Int} (hi : i < l.length) (hp : p < l.length) (hne : p ≠ i) : ((l.set i (elt l p)).set p k).Perm (l.set i k) := by
  have h := Go.Sort.perm_set_set (l.set i k) i p (by simpa using hi) (by simpa using hp)
  have e1 : (l.set i k)[i]'(by simpa using hi) = k := by simp
  have e2 : (l.set i k)[p]'(by simpa using hp) = elt l p := by
    rw [List.getElem_set_ne (fun e => hne e.symm)]
    unfold elt
    rw [List.getD_eq_getElem?_getD, List.getElem?_eq_getElem hp]
    rfl
  rw [e1, e2, List.set_set] at h
  exact h
theorem riseE_perm (l : List Int) (i : Nat) (k : Int) (hi : i < l.length) : (riseE l i k).Perm (l.set i k) := by
  induction i using Nat.strongRecOn generalizing l with
  | ind i ih =>
    by_cases h0 : i = 0 ∨ elt l ((i - 1) / 2) ≤ k
    · rw [riseE_end h0]
    · have hi0 : i ≠ 0 := fun e => h0 (.inl e)
      rw [riseE_go hi0 (fun e => h0 (.inr e))]
      exact (ih _ (by omega) _ (by rw [List.length_set]; omega)).trans (hole_perm hi (by omega) (by omega))
theorem sinkE_perm (n : Nat) (l : List Int) (i : Nat) (y : Int) (hn : l.length - i ≤ n) (hi : i < l.length) : (sinkE l i y).Perm (l.set i y) := by
  induction n generalizing l i with
  | zero => omega
  | succ n ih =>
    by_cases h0 : l.length ≤ 2 * i + 1 ∨ y ≤ elt l (lesserE l i)
    · rw [sinkE_end h0]
    · have := lesserE_is l i
      have h1 : 2 * i + 1 < l.length := by omega
      rw [sinkE_go h1 (fun e => h0 (.inr e))]
      exact (ih _ _ (by rw [List.length_set]; omega) (by rw [List.length_set]; omega)).trans (hole_perm hi (by omega) (by omega))
theorem pushE_perm (h : List Int) (k : Int) : (pushE h k).Perm (h ++ [k]) := by
  unfold pushE
  refine (riseE_perm _ _ _ (by simp)).trans ?_
  rw [List.set_append_right _ _ (by omega), Nat.sub_self]
  exact List.Perm.refl _
theorem popE_perm {h : List Int} (h0 : 0 < h.length) : (elt h 0 :: popE h).Perm h := by
  unfold popE
  by_cases h1 : h.length = 1
  · rw [if_pos h1]
    obtain ⟨x, rfl⟩ := List.length_eq_one_iff.1 h1
    exact List.Perm.refl _
  · rw [if_neg h1]
    cases h with
    | nil => simp at h0
    | cons a t =>
      have ht : t ≠ [] := fun e => h1 (by rw [e]; rfl)
      obtain ⟨s, b, rfl⟩ : ∃ s b, t = s ++ [b] := ⟨t.dropLast, t.getLast ht, (List.dropLast_concat_getLast ht).symm⟩
      have e1 : (a :: (s ++ [b])).dropLast = a :: s := by rw [← List.cons_append, List.dropLast_concat]
      have e2 : elt (a :: (s ++ [b])) ((a :: (s ++ [b])).length - 1) = b := by
        have := elt_last (a :: s) b
        rw [← List.cons_append]
        rw [show ((a :: s) ++ [b]).length - 1 = (a :: s).length by simp]
        exact this
      rw [e1, e2]
      refine (List.Perm.cons _ (sinkE_perm _ _ _ _ (Nat.le_refl _) (by simp))).trans ?_
      show (a :: b :: s).Perm (a :: (s ++ [b]))
      exact List.Perm.cons _ (List.perm_append_singleton b s).symm
end Go.Proofs.Ytanbjdlaolgepaa

namespace Go.Proofs.Ytanbjdlaolgepaa
open Go Go.RowKit
set_option linter.unusedSimpArgs false
set_option linter.unusedVariables false

theorem w64_in (x : Int) : -9223372036854775808 ≤ wrap64 x ∧ wrap64 x ≤ 9223372036854775807 := by unfold wrap64; omega
theorem w64_id {x : Int} (h : -9223372036854775808 ≤ x ∧ x ≤ 9223372036854775807) : wrap64 x = x := by unfold wrap64; omega
/-- What keeps Insert going. -/
structure InsOk (f : Fra) : Prop where
  ln : f.ln = 1 ∨ f.ln = 2 ∨ f.ln = 3 ∨ f.ln = 4 ∨ f.ln = 5 ∨ f.ln = 6
  fn : -9223372036854775808 ≤ f.fn ∧ f.fn ≤ 9223372036854775807
  fi : -9223372036854775808 ≤ f.fi ∧ f.fi ≤ 9223372036854775807
  up : f.ln = 3 ∨ f.ln = 4 → 0 < f.fi
  u : f.U
theorem insOk_new (kd a b : Int) : InsOk { fra1 kd 0 0 0 0 a with fb := b } := ⟨.inl rfl, ⟨by simp, by simp⟩, ⟨by simp, by simp⟩, fun h => by simp at h, uw_zero, uw_zero, uw_zero, uw_zero⟩
theorem ins_ok {c : Cfg} {s : St} {f : Fra} (hs : s.U) (h : InsOk f) (hd : (insertS c s f).2.2.dn = false) : InsOk (insertS c s f).2.1 := by
  obtain ⟨hl, hn, hi, hu, h1, h2, h3, h4⟩ := h
  unfold insertS at hd ⊢
  split at hd
  · rename_i e1
    rw [if_pos e1]
    split at hd
    · cases hd
    · rename_i e2
      rw [if_neg e2]
      exact ⟨.inr (.inl rfl), w64_in _, hi, fun h => by simp at h, h1, h2, h3, h4⟩
  rename_i e1
  rw [if_neg e1]
  split at hd
  · rename_i e2
    rw [if_pos e2]
    split at hd
    · rename_i e3
      rw [if_pos e3]
      refine ⟨?_, hn, hn, ?_, h1, h2, keyS_uw e3, h4⟩
      · show (if f.fn ≤ 0 then (5 : Int) else 3) = 1 ∨ _
        split <;> simp
      · show (if f.fn ≤ 0 then (5 : Int) else 3) = 3 ∨ (if f.fn ≤ 0 then (5 : Int) else 3) = 4 → 0 < f.fn
        split <;> intro h <;> omega
    · cases hd
  rename_i e2
  rw [if_neg e2]
  split
  · refine ⟨?_, hn, hi, fun _ => hu (by omega), h1, h2, h3, hs _⟩
    show (if s.old (rSlot c (parD f.fi)) ≤ f.fw then (5 : Int) else 4) = 1 ∨ _
    split <;> simp
  rename_i e3
  split
  · have hp := hu (by omega)
    refine ⟨?_, hn, w64_in _, ?_, h1, h2, h3, h4⟩
    · show (if parI f.fi ≤ 0 then (5 : Int) else 3) = 1 ∨ _
      split <;> simp
    · show (if parI f.fi ≤ 0 then (5 : Int) else 3) = 3 ∨ (if parI f.fi ≤ 0 then (5 : Int) else 3) = 4 → 0 < parI f.fi
      split <;> intro h <;> omega
  rename_i e4
  split
  · exact ⟨.inr (.inr (.inr (.inr (.inr rfl)))), hn, hi, fun h => by simp at h, h1, h2, h3, h4⟩
  · rename_i e5
    rw [if_neg e3, if_neg e4, if_neg e5] at hd
    cases hd
theorem ins_U {c : Cfg} {s : St} {f : Fra} (hs : s.U) (h : f.U) : (insertS c s f).1.U := by
  obtain ⟨h1, h2, h3, h4⟩ := h
  unfold insertS
  split
  · split <;> exact go_U hs _ _ _ (fun x hx => hx)
  split
  · split <;> exact go_U hs _ _ _ (fun x hx => uw_wrap _)
  split
  · exact go_U hs _ _ _ (fun x hx => hx)
  split
  · exact go_U hs _ _ _ (fun x hx => h4)
  split
  · exact go_U hs _ _ _ (fun x hx => h3)
  · exact go_U hs _ _ _ (fun x hx => uw_wrap _)
/-- What keeps Remove going. -/
structure RemOk (f : Fra) : Prop where
  ln : f.ln = 1 ∨ f.ln = 2 ∨ f.ln = 3 ∨ f.ln = 4 ∨ f.ln = 5 ∨ f.ln = 6 ∨ f.ln = 7 ∨ f.ln = 8
  fn : f.ln ≠ 1 → 1 ≤ f.fn ∧ f.fn ≤ 9223372036854775807
  z : f.ln ≤ 4 → f.fi = 0
  fi : 0 ≤ f.fi ∧ f.fi ≤ 64
  v : 4 ≤ f.ln → f.fv = 0 ∨ f.fn ≤ 64
  c5 : f.ln = 5 → 2 * f.fi + 1 < f.fn - 1
  c6 : f.ln = 6 → f.fj = 2 * f.fi + 1 ∧ f.fj + 1 < f.fn - 1
  c7 : f.ln = 7 → 0 ≤ f.fj ∧ f.fj < f.fn - 1 ∧ f.fn ≤ 64
  u : f.U
theorem remOk_new (kd a : Int) : RemOk (fra1 kd 0 0 0 0 a) := ⟨.inl rfl, fun h => by simp at h, fun _ => rfl, ⟨by simp, by simp⟩, fun h => by simp at h, fun h => by simp at h, fun h => by simp at h, fun h => by simp at h, uw_zero, uw_zero, uw_zero, uw_zero⟩
theorem rSlot_out {c : Cfg} {s : St} {i : Int} (h : c.he ≤ i) : s.old (rSlot c i) = 0 := by
  unfold rSlot ixs
  rw [if_pos (.inr h)]
  unfold St.old
  rw [if_neg (show ¬ s.has (-1) from fun h => by have := h.1; omega)]
theorem childN_is {i n : Int} (h0 : 0 ≤ i ∧ i ≤ 64) (hn : 1 ≤ n ∧ n ≤ 9223372036854775807) : childN i n = if 2 * i + 1 < n - 1 then 5 else 8 := by
  unfold childN
  rw [w64_id (x := 2 * i) (by omega), w64_id (x := 2 * i + 1) (by omega), w64_id (x := n - 1) (by omega)]
theorem lessN_78 (x y : Int) : lessN x y = 7 ∨ lessN x y = 8 := by unfold lessN; split <;> simp
theorem lessN_7 {x y : Int} (h : lessN x y = 7) : x < y := by unfold lessN at h; split at h <;> omega
theorem rem_ok {c : Cfg} {s : St} {es : List Ev} {f : Fra} (hin : CfgIn c) (hs : s.U) (h : RemOk f) (hd : (removeS c s es f).2.2.2.dn = false) : RemOk (removeS c s es f).2.2.1 := by
  obtain ⟨hl, hn, hz, hi, hv, k5, k6, k7, h1, h2, h3, h4⟩ := h
  have hhe := hin.he
  unfold removeS at hd ⊢
  by_cases e1 : f.ln = 1
  · rw [if_pos e1] at hd ⊢
    by_cases e2 : wrap64 (s.old 2) ≤ 0
    · simp [e2] at hd
    · have hw := w64_in (s.old 2)
      simp only [if_neg e2]
      exact ⟨.inr (.inl rfl), fun _ => ⟨by show 1 ≤ wrap64 _; omega, hw.2⟩, fun _ => hz (by omega), hi, fun h => by simp at h, fun h => by simp at h, fun h => by simp at h, fun h => by simp at h, h1, h2, h3, h4⟩
  have hn := hn e1
  rw [if_neg e1] at hd ⊢
  by_cases e2 : f.ln = 2
  · rw [if_pos e2] at hd ⊢
    exact ⟨.inr (.inr (.inl rfl)), fun _ => hn, fun _ => hz (by omega), hi, fun h => by simp at h, fun h => by simp at h, fun h => by simp at h, fun h => by simp at h, hs _, h2, h3, h4⟩
  rw [if_neg e2] at hd ⊢
  by_cases e3 : f.ln = 3
  · rw [if_pos e3] at hd ⊢
    refine ⟨.inr (.inr (.inr (.inl rfl))), fun _ => hn, fun _ => hz (by omega), hi, fun _ => ?_, fun h => by simp at h, fun h => by simp at h, fun h => by simp at h, h1, hs _, h3, h4⟩
    show s.old (rSlot c (IntKind.i64.wrap (f.fn - 1))) = 0 ∨ f.fn ≤ 64
    rw [wrap_two, w64_id (by omega)]
    by_cases hc : f.fn ≤ 64
    · exact .inr hc
    · exact .inl (rSlot_out (by omega))
  rw [if_neg e3] at hd ⊢
  by_cases e4 : f.ln = 4
  · rw [if_pos e4] at hd ⊢
    have hv := hv (by omega)
    by_cases e5 : f.fn = 1
    · simp [e5] at hd
    · simp only [if_neg e5]
      have hc : childN 0 f.fn = if (1 : Int) < f.fn - 1 then 5 else 8 := childN_is (i := 0) ⟨by omega, by omega⟩ hn
      generalize childN 0 f.fn = L at *
      have hL : (L = 5 ∧ 1 < f.fn - 1) ∨ L = 8 := by
        rw [hc]
        split
        · rename_i h
          exact .inl ⟨rfl, h⟩
        · exact .inr rfl
      refine ⟨(show L = 1 ∨ L = 2 ∨ L = 3 ∨ L = 4 ∨ L = 5 ∨ L = 6 ∨ L = 7 ∨ L = 8 by omega), fun _ => hn, fun _ => rfl, ⟨by show (0 : Int) ≤ 0; omega, by show (0 : Int) ≤ 64; omega⟩, fun _ => hv, fun h => ?_, fun h => ?_, fun h => ?_, h1, h2, h3, h4⟩
      · have h : L = 5 := h
        show 2 * (0 : Int) + 1 < f.fn - 1
        omega
      · exfalso
        have h : L = 6 := h
        omega
      · exfalso
        have h : L = 7 := h
        omega
  rw [if_neg e4] at hd ⊢
  have hv := hv (by omega)
  by_cases e5 : f.ln = 5
  · rw [if_pos e5] at hd ⊢
    have k5 := k5 e5
    rw [w64_id (x := 2 * f.fi) (by omega), w64_id (x := 2 * f.fi + 1) (by omega), w64_id (x := 2 * f.fi + 2) (by omega), w64_id (x := f.fn - 1) (by omega)]
    have hw : uw (s.old (rSlot c (2 * f.fi + 1))) := hs _
    have hL : ∀ L, (if f.fn - 1 ≤ 2 * f.fi + 2 then lessN (s.old (rSlot c (2 * f.fi + 1))) f.fv else 6) = L → (L = 6 ∧ 2 * f.fi + 2 < f.fn - 1) ∨ (L = 7 ∧ s.old (rSlot c (2 * f.fi + 1)) < f.fv) ∨ L = 8 := by
      rintro L rfl
      unfold lessN
      split
      · split
        · rename_i h
          exact .inr (.inl ⟨rfl, h⟩)
        · exact .inr (.inr rfl)
      · exact .inl ⟨rfl, by omega⟩
    generalize (if f.fn - 1 ≤ 2 * f.fi + 2 then lessN (s.old (rSlot c (2 * f.fi + 1))) f.fv else 6) = L at *
    have hL := hL L rfl
    have hw0 := hw.1
    refine ⟨(show L = 1 ∨ L = 2 ∨ L = 3 ∨ L = 4 ∨ L = 5 ∨ L = 6 ∨ L = 7 ∨ L = 8 by omega), fun _ => hn, fun h => ?_, hi, fun _ => hv, fun h => ?_, fun h => ?_, fun h => ?_, h1, h2, hw, h4⟩
    · have h : L ≤ 4 := h
      omega
    · have h : L = 5 := h
      omega
    · have h : L = 6 := h
      exact ⟨rfl, by show 2 * f.fi + 1 + 1 < f.fn - 1; omega⟩
    · have h : L = 7 := h
      exact ⟨by show 0 ≤ 2 * f.fi + 1; omega, k5, by show f.fn ≤ 64; omega⟩
  rw [if_neg e5] at hd ⊢
  by_cases e6 : f.ln = 6
  · rw [if_pos e6] at hd ⊢
    obtain ⟨k6, k6'⟩ := k6 e6
    rw [w64_id (x := 2 * f.fi) (by omega), w64_id (x := 2 * f.fi + 2) (by omega)]
    have hw : uw (s.old (rSlot c (2 * f.fi + 2))) := hs _
    by_cases e7 : s.old (rSlot c (2 * f.fi + 2)) < f.fw
    · simp only [if_pos e7]
      have hll := lessN_78 (s.old (rSlot c (2 * f.fi + 2))) f.fv
      have hl7 := @lessN_7 (s.old (rSlot c (2 * f.fi + 2))) f.fv
      generalize lessN (s.old (rSlot c (2 * f.fi + 2))) f.fv = L at *
      refine ⟨(show L = 1 ∨ L = 2 ∨ L = 3 ∨ L = 4 ∨ L = 5 ∨ L = 6 ∨ L = 7 ∨ L = 8 by omega), fun _ => hn, fun h => ?_, hi, fun _ => hv, fun h => ?_, fun h => ?_, fun h => ?_, h1, h2, hw, h4⟩
      · exfalso; have h : L ≤ 4 := h; omega
      · exfalso; have h : L = 5 := h; omega
      · exfalso; have h : L = 6 := h; omega
      · have h := hl7 h
        have := hw.1
        exact ⟨by show 0 ≤ 2 * f.fi + 2; omega, by show 2 * f.fi + 2 < f.fn - 1; omega, by show f.fn ≤ 64; omega⟩
    · simp only [if_neg e7]
      have hll := lessN_78 f.fw f.fv
      have hl7 := @lessN_7 f.fw f.fv
      generalize lessN f.fw f.fv = L at *
      refine ⟨(show L = 1 ∨ L = 2 ∨ L = 3 ∨ L = 4 ∨ L = 5 ∨ L = 6 ∨ L = 7 ∨ L = 8 by omega), fun _ => hn, fun h => ?_, hi, fun _ => hv, fun h => ?_, fun h => ?_, fun h => ?_, h1, h2, h3, h4⟩
      · exfalso; have h : L ≤ 4 := h; omega
      · exfalso; have h : L = 5 := h; omega
      · exfalso; have h : L = 6 := h; omega
      · have h := hl7 h
        have := h3.1
        exact ⟨by show 0 ≤ f.fj; omega, by show f.fj < f.fn - 1; omega, by show f.fn ≤ 64; omega⟩
  rw [if_neg e6] at hd ⊢
  by_cases e7 : f.ln = 7
  · rw [if_pos e7] at hd ⊢
    obtain ⟨j0, j1, j2⟩ := k7 e7
    have hc : childN f.fj f.fn = if 2 * f.fj + 1 < f.fn - 1 then 5 else 8 := childN_is ⟨j0, by omega⟩ hn
    generalize childN f.fj f.fn = L at *
    have hL : (L = 5 ∧ 2 * f.fj + 1 < f.fn - 1) ∨ L = 8 := by
      rw [hc]
      split
      · rename_i h
        exact .inl ⟨rfl, h⟩
      · exact .inr rfl
    refine ⟨(show L = 1 ∨ L = 2 ∨ L = 3 ∨ L = 4 ∨ L = 5 ∨ L = 6 ∨ L = 7 ∨ L = 8 by omega), fun _ => hn, fun h => ?_, ⟨j0, by show f.fj ≤ 64; omega⟩, fun _ => hv, fun h => ?_, fun h => ?_, fun h => ?_, h1, h2, h3, h4⟩
    · exfalso
      have h : L ≤ 4 := h
      omega
    · have h : L = 5 := h
      show 2 * f.fj + 1 < f.fn - 1
      omega
    · exfalso
      have h : L = 6 := h
      omega
    · exfalso
      have h : L = 7 := h
      omega
  rw [if_neg e7] at hd
  cases hd
theorem rem_U {c : Cfg} {s : St} {es : List Ev} {f : Fra} (hs : s.U) (h : f.U) : (removeS c s es f).1.U := by
  obtain ⟨h1, h2, h3, h4⟩ := h
  unfold removeS
  split
  · exact go_U hs _ _ _ (fun x hx => hx)
  split
  · exact go_U hs _ _ _ (fun x hx => hx)
  split
  · exact go_U hs _ _ _ (fun x hx => hx)
  split
  · exact go_U hs _ _ _ (fun x hx => uw_wrap _)
  split
  · exact go_U hs _ _ _ (fun x hx => hx)
  split
  · exact go_U hs _ _ _ (fun x hx => hx)
  split
  · exact go_U hs _ _ _ (fun x hx => h3)
  · exact go_U hs _ _ _ (fun x hx => h2)
end Go.Proofs.Ytanbjdlaolgepaa
