/-
  A drawn region whose last store changes a cell that the region loads: a condition S holds behind every operation but that store; what gives one value in every world that meets S may be taken first, if the store waits for it. No function is named.
-/
import Derived.Test.YtpmdmeolehabjaaBlk
import Derived.OrdersHeld
import Derived.Deep.RegionHeld
namespace Go.Proofs.Ytpmdmeolehabjaa
open Go Go.RowKit

section
variable {P : Program} {ops : Array Oper} {Q : Exit → Act → World → Prop} {S : World → Prop} {z : Nat}
/-- Whatever order is picked: S holds behind all operations but number z. -/
def wpAnyZ (P : Program) (ops : Array Oper) (Q : Exit → Act → World → Prop) (S : World → Prop) (z : Nat) : Nat → Array Bool → Act → World → Prop
  | 0, L, a, w => Region.ready .any ops L = [] ∧ Q .normal a w
  | n + 1, L, a, w => (Region.ready .any ops L = [] → Q .normal a w) ∧ ∀ i ∈ Region.ready .any ops L, wpOp P ops Q i (fun a' w' => (i ≠ z → S w') ∧ wpAnyZ P ops Q S z n (L.setIfInBounds i true) a' w') a w
theorem wpAnyZ.any : ∀ (n : Nat) (L : Array Bool) (a : Act) (w : World), wpAnyZ P ops Q S z n L a w → wpAny P .any ops Q n L a w
  | 0, _, _, _, h => h
  | n + 1, _, _, _, h => ⟨h.1, fun i hi => wpOp_mono (fun a' w' h' => wpAnyZ.any n _ a' w' h'.2) (h.2 i hi)⟩
/-- The beginning. -/
theorem wp_region_late {id : Nat} {a : Act} {w : World} (hm : P.follows .mixedOrders = true) (h : wpAnyZ P ops Q S z ops.size (Array.replicate ops.size false) a w.drew) : (Code.region id ops true).wp P Q a w :=
  wp_region_any hm (wpAnyZ.any _ _ _ _ h)
/-- Number z waits for number i. -/
def lateFor (ops : Array Oper) (z i : Nat) : Bool := ((ops[z]?).map fun o => o.after.toList.any fun e => Region.binds .any e && e.on == i).getD false
theorem late_spec {i : Nat} {oz : Oper} (h : lateFor ops z i = true) (hz : ops[z]? = some oz) : ∃ e ∈ oz.after, Region.binds .any e = true ∧ e.on = i := by
  unfold lateFor at h
  rw [hz] at h
  obtain ⟨e, he, hb⟩ := List.any_eq_true.1 (show oz.after.toList.any (fun e => Region.binds .any e && e.on == i) = true from h)
  rw [Bool.and_eq_true, beq_iff_eq] at hb
  exact ⟨e, by simpa using he, hb.1, hb.2⟩
theorem wpAnyZ.first {i : Nat} {oi : Oper} {v : Value} (hi : ops[i]? = some oi) (hne : i ≠ z) (hz : lateFor ops z i = true) (hsel : ∀ (j : Nat) (o : Oper) cs b, ops[j]? = some o → o.op ≠ .select cs b)
    (hQ : ∀ c a w, Q (.panic c) (a.put oi.dst v) w → Q (.panic c) a w) : ∀ (n : Nat) (L : Array Bool) (a : Act) (w : World),
      (∀ j oj, ops[j]? = some oj → j ≠ i → L.getD j true = false → (∀ e ∈ oj.after, Region.binds .any e = true → e.on ≠ i) → oi.apart ops oj = true) →
      i ∈ Region.ready .any ops L → YieldsIf P ops S oi v a → S w → wpAnyZ P ops Q S z n (L.setIfInBounds i true) (a.put oi.dst v) w → wpAnyZ P ops Q S z (n + 1) L a w := by
  intro n
  induction n with
  | zero =>
    intro L a w _ hr hy hS H
    refine ⟨fun h => (by rw [h] at hr; cases hr), fun j hj => ?_⟩
    rcases Classical.em (j = i) with rfl | hji
    · exact hy.wpOp hi hS ⟨fun _ => hS, H⟩
    · have hmem := ready_mono hj hji
      rw [H.1] at hmem
      cases hmem
  | succ n ih =>
    intro L a w hfree hr hy hS H
    refine ⟨fun h => (by rw [h] at hr; cases hr), fun j hj => ?_⟩
    rcases Classical.em (j = i) with rfl | hji
    · exact hy.wpOp hi hS ⟨fun _ => hS, H⟩
    obtain ⟨hun, oj, hoj, hall⟩ := mem_ready.1 hj
    have hio : ∀ e ∈ oj.after, Region.binds .any e = true → e.on ≠ i := by
      intro e he hb heq
      have h1 := hall e he hb
      have h0 := (mem_ready.1 hr).1
      rw [heq] at h1
      by_cases hlt : i < L.size
      · simp [hlt] at h0 h1
        rw [h0] at h1
        cases h1
      · simp [Array.getElem?_eq_none (Nat.le_of_not_lt hlt)] at h1
    have hjz : j ≠ z := by
      rintro rfl
      obtain ⟨e, he, hb, heq⟩ := late_spec hz hoj
      exact hio e he hb heq
    have hstep := wpOp_putIf hoj (hfree j oj hoj hji hun hio) (fun cs b => hsel i oi cs b hi) (fun cs b => hsel j oj cs b hoj) hQ hy (H.2 j (ready_mono hj hji))
    refine wpOp_mono (fun a' w' h3 => ⟨h3.2.1, ih (L.setIfInBounds j true) a' w' (fun k ok hk hki hku hno => hfree k ok hk hki ?_ hno) (ready_mono hr (Ne.symm hji)) h3.1 (h3.2.1 hjz) ?_⟩) hstep
    · rcases Classical.em (j = k) with rfl | hjk
      · exact hun
      · rwa [getD_set_ne true hjk] at hku
    · rw [Array.setIfInBounds_comm _ _ hji]
      exact h3.2.2
/-- Number i may be taken first. -/
theorem wpAnyZ.take {i : Nat} {oi : Oper} {v : Value} {n : Nat} {L : Array Bool} {a : Act} {w : World} (hi : ops[i]? = some oi) (hne : (i == z) = false) (hz : lateFor ops z i = true) (hs : Region.noSelect ops = true) (hf : Region.free .any ops L i = true) (hr : (Region.ready .any ops L).contains i = true)
    (hQ : ∀ c a w, Q (.panic c) (a.put oi.dst v) w → Q (.panic c) a w) (hy : YieldsIf P ops S oi v a) (hS : S w) (h : wpAnyZ P ops Q S z n (L.setIfInBounds i true) (a.put oi.dst v) w) : wpAnyZ P ops Q S z (n + 1) L a w :=
  wpAnyZ.first hi (by simpa using hne) hz (Region.noSelect_spec hs) hQ n L a w (Region.free_spec hi hf) (by simpa using hr) hy hS h
/-- Each of these comes up next. -/
def AllZ (P : Program) (ops : Array Oper) (Q : Exit → Act → World → Prop) (S : World → Prop) (z n : Nat) (L : Array Bool) (a : Act) (w : World) (rs : List Nat) : Prop :=
  ∀ i ∈ rs, wpOp P ops Q i (fun a' w' => (i ≠ z → S w') ∧ wpAnyZ P ops Q S z n (L.setIfInBounds i true) a' w') a w
theorem AllZ.nil {n : Nat} {L : Array Bool} {a : Act} {w : World} : AllZ P ops Q S z n L a w [] := fun _ h => by cases h
theorem AllZ.cons {n : Nat} {L : Array Bool} {a : Act} {w : World} {i : Nat} {o : Oper} {rs : List Nat} (ho : ops[i]? = some o)
    (h : ∀ K' : Act → World → Prop, Shut (∀ a w, (i ≠ z → S w) → (S w ∨ i = z → wpAnyZ P ops Q S z n (L.setIfInBounds i true) a w) → K' a w) → if Region.wanted o (yielded ops a.tmps) = true then Oper.wp P o a w K' Q else K' (a.put o.dst undef) w)
    (hs : AllZ P ops Q S z n L a w rs) : AllZ P ops Q S z n L a w (i :: rs) := fun j hj => by
  rcases List.mem_cons.1 hj with rfl | hj
  · refine wpOp_step ho (fun K' hK => h K' (fun a w hS hW => hK a w ⟨hS, hW ?_⟩))
    rcases Classical.em (j = z) with e | e
    · exact .inr e
    · exact .inl (hS e)
  · exact hs j hj
theorem wpAnyZ.ready {rs : List Nat} {n : Nat} {L : Array Bool} {a : Act} {w : World} (hr : Region.ready .any ops L = rs) (hne : rs ≠ []) (h : AllZ P ops Q S z n L a w rs) : wpAnyZ P ops Q S z (n + 1) L a w :=
  ⟨fun h0 => absurd (hr ▸ h0) hne, hr ▸ h⟩
theorem wpAnyZ.done {L : Array Bool} {a : Act} {w : World} (hr : Region.ready .any ops L = []) (h : Q .normal a w) : ∀ n, wpAnyZ P ops Q S z n L a w
  | 0 => ⟨hr, h⟩
  | _ + 1 => ⟨fun _ => h, by rw [hr]; simp⟩
end
end Go.Proofs.Ytpmdmeolehabjaa
