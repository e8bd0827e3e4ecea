/-
  Package table: its machines alone.
-/
import Derived.Test.YtgipddeldddbnaaMgBD
import Derived.Test.YtgipddeldddbnaaAloG
namespace Go.Proofs.Ytgipddeldddbnaa
open Go Go.RowKit Go.Shelf
set_option linter.unusedSimpArgs false
set_option linter.unusedVariables false

/-- The environment of the laws, all of it at or above block B; n events may have come to E. -/
def TI (B p m k g cap : Nat) (t d : Int) (hd : List Value) (rv : Value) (c : Cfg) (E n : Nat) (w : World) (x : St × List Rec × List Ev) : Prop :=
  ∃ ev, TW B w p m k g cap x.1 t d hd rv ev x.2.1 x.2.2 ∧ x.1.U ∧ (x.2.1.length : Int) = c.ta ∧ x.2.2.length ≤ E + n ∧ B ≤ w.heap.size
/-- What stays of an environment. -/
structure TC (B p m k g : Nat) (hd : List Value) (c : Cfg) : Prop where
  l : LayHd hd c
  i : CfgIn c
  lo : B ≤ p ∧ B ≤ m ∧ B ≤ k ∧ B ≤ g
def alcX (c : Cfg) (y : St × List Rec × List Ev) (x : Fra) : (St × List Rec × List Ev) × Fra × Res := (((alcS c y.1).1, y.2), x, (alcS c y.1).2)
def pubX (c : Cfg) (t : Int) (y : St × List Rec × List Ev) (x : Fra) : (St × List Rec × List Ev) × Fra × Res := (((pubS c t y.1 x).1, y.2), (pubS c t y.1 x).2.1, (pubS c t y.1 x).2.2)
def clmX (c : Cfg) (y : St × List Rec × List Ev) (x : Fra) : (St × List Rec × List Ev) × Fra × Res := (((clmS c y.2.1 y.1 y.2.2 x).1, (clmS c y.2.1 y.1 y.2.2 x).2.2.1, (clmS c y.2.1 y.1 y.2.2 x).2.1), x, (clmS c y.2.1 y.1 y.2.2 x).2.2.2)
section
variable {w w' : World} {B p m k g cap q E n : Nat} {t d : Int} {hd : List Value} {rv : Value} {c : Cfg} {x : St × List Rec × List Ev}
theorem TI.drewN (h : TI B p m k g cap t d hd rv c E n w x) (j : Nat) : TI B p m k g cap t d hd rv c E n (w.drewN j) x := by
  obtain ⟨ev, a, b, e, f, z⟩ := h
  exact ⟨ev, a.below (below_drewN _ _), b, e, f, z⟩
theorem TI.below (h : TI B p m k g cap t d hd rv c E n w x) (hb : Below w.heap.size w w') : TI B p m k g cap t d hd rv c E n w' x := by
  obtain ⟨ev, a, b, e, f, z⟩ := h
  exact ⟨ev, a.below hb, b, e, f, Nat.le_trans z hb.size⟩
theorem alc_U {s : St} (h : s.U) : (alcS c s).1.U := go_U h _ _ _ (fun _ _ => uw_wrap _)
theorem uw_one : uw 1 := ⟨by decide, by decide⟩
theorem uw_two : uw 2 := ⟨by decide, by decide⟩
theorem pub_U {s : St} {f : Fra} (h : s.U) : (pubS c t s f).1.U := by
  unfold pubS
  split
  · split
    · exact go_U h _ _ _ (fun _ _ => uw_wrap _)
    split
    · exact go_U h _ _ _ (fun _ _ => uw_wrap _)
    · exact go_U h _ _ _ (fun _ _ => uw_one)
  · exact h
theorem clm_U {s : St} {f : Fra} {rs : List Rec} {es : List Ev} (h : s.U) : (clmS c rs s es f).1.U := by
  have h2 : (s.go 3 (rTask c f.fb 0) (fun x => if x = 1 then 2 else x)).U := go_U h _ _ _ (fun x hx => by split; exact uw_two; exact hx)
  unfold clmS
  split <;> exact h2
theorem clm_len {s : St} {f : Fra} {rs : List Rec} {es : List Ev} : (clmS c rs s es f).2.1.length = es.length + 1 ∧ (clmS c rs s es f).2.2.1.length = rs.length := by
  unfold clmS
  split <;> simp
/-- The blocks that a step may change lie at or above B. -/
theorem TW.low {w : World} {s : St} {ev : Value} {rs : List Rec} {es : List Ev} (h : TW B w p m k g cap s t d hd rv ev rs es) (hc : TC B p m k g hd c) (hq : B ≤ q) : ∀ y, y ∈ p :: m :: g :: q :: (rv.ownBlock.toList ++ ev.ownBlock.toList) → B ≤ y := by
  have hlo := hc.lo
  obtain ⟨ks, _, h2, _⟩ := h.r
  intro y hy
  simp only [List.mem_cons, List.mem_append, Option.mem_toList] at hy
  rcases hy with rfl | rfl | rfl | rfl | hy | hy
  · omega
  · omega
  · omega
  · omega
  · exact (World.ownsRow.lt h2 y hy).1
  · exact (h.v.lt y hy).1
theorem alc_step (hc : TC B p m k g hd c) (hq : B ≤ q) {x : St × List Rec × List Ev} {f : Fra} (h : TI B p m k g cap t d hd rv c E n w x) (hv : LB w q 67 [] f 0 0 ∧ f.ln = 1) :
    Calls Try.prog 56 #[.pointer (some ⟨q, 0, none⟩), .pointer (some ⟨p, 0, none⟩)] w (GStep B (TI B p m k g cap t d hd rv c E) (fun w f => LB w q 67 [] f 0 0 ∧ f.ln = 1) q n w (alcX c x f)) := by
  obtain ⟨ev, ht, hu, hr, he, hs⟩ := h
  refine (allocator_any ht.e hc.l hc.i hv.1 hv.2).mono ?_
  rintro e w' ⟨rfl, hp, hb, hf⟩
  have hd1 : (alcS c x.1).2.dn = true := by unfold alcS; dsimp only; split <;> rfl
  have hS : ∀ j, j ∈ [m, g, q] → ∃ t cs, Blk w j t cs ∧ t ≠ 58 ∧ t ≠ 55 ∧ t ≠ 3 := by
    intro j hj
    by_cases hjq : j = q
    · subst hjq
      exact ⟨_, _, hv.1.blk, by decide, by decide, by decide⟩
    · exact ht.e.mg j (by simp only [List.mem_cons, List.not_mem_nil, or_false] at hj ⊢; omega)
  have hsz : w.heap.size ≤ w'.heap.size := hf.size
  refine ⟨rfl, ⟨ev, ⟨hp, ht.v.accs hf (fun j hj => by obtain ⟨t, cs, a, b, _⟩ := hS j hj; exact ⟨t, cs, a, b⟩), ht.r.accs hf (fun j hj => by obtain ⟨t, cs, a, _, b⟩ := hS j hj; exact ⟨t, cs, a, b⟩)⟩, alc_U (c := c) hu, hr, by show x.2.2.length ≤ _; omega, Nat.le_trans hs hsz⟩, fun _ => ⟨_, _, _, hb⟩, fun h => ?_, hf.below hs (fun y hy => ht.low hc hq y (by simp only [List.mem_cons, List.not_mem_nil, or_false] at hy ⊢; rcases hy with rfl | rfl | rfl <;> simp))⟩
  have h2 : (alcS c x.1).2.dn = false := h
  rw [hd1] at h2
  cases h2
theorem pubS_kp {s : St} {f : Fra} (h : (pubS c t s f).2.2.dn = false) (ho : PubOk c f) : PubOk c (pubS c t s f).2.1 ∧ (pubS c t s f).2.1.fa = f.fa ∧ (pubS c t s f).2.1.fb = f.fb ∧ (pubS c t s f).2.2.cd = 0 ∧ (pubS c t s f).2.2.vl = 0 := by
  unfold pubS at h ⊢
  split
  · rename_i ht
    rw [if_pos ht] at h
    split
    · exact ⟨.inr ⟨ht, .inl rfl⟩, rfl, rfl, rfl, rfl⟩
    · rename_i h1
      rw [if_neg h1] at h
      split
      · exact ⟨.inr ⟨ht, .inr rfl⟩, rfl, rfl, rfl, rfl⟩
      · rename_i h2
        rw [if_neg h2] at h
        cases h
  · rename_i ht
    rw [if_neg ht] at h
    cases h
theorem pub_step (hc : TC B p m k g hd c) (hq : B ≤ q) {x : St × List Rec × List Ev} {f : Fra} (h : TI B p m k g cap t d hd rv c E n w x) (hv : LB w q 90 [.int .i64 f.fa, .int .i64 f.fb] f 0 0 ∧ PubOk c f) :
    Calls Try.prog 65 #[.pointer (some ⟨q, 0, none⟩), .pointer (some ⟨p, 0, none⟩)] w (GStep B (TI B p m k g cap t d hd rv c E) (fun w f => LB w q 90 [.int .i64 f.fa, .int .i64 f.fb] f 0 0 ∧ PubOk c f) q n w (pubX c t x f)) := by
  obtain ⟨ev, ht, hu, hr, he, hs⟩ := h
  refine (publisher_any ht.e hc.l hc.i hv.1 hv.2).mono ?_
  rintro e w' ⟨rfl, hp, hb, hf⟩
  have hS : ∀ j, j ∈ [m, g, q] → ∃ t cs, Blk w j t cs ∧ t ≠ 58 ∧ t ≠ 55 ∧ t ≠ 3 := by
    intro j hj
    by_cases hjq : j = q
    · subst hjq
      exact ⟨_, _, hv.1.blk, by decide, by decide, by decide⟩
    · exact ht.e.mg j (by simp only [List.mem_cons, List.not_mem_nil, or_false] at hj ⊢; omega)
  have hsz : w.heap.size ≤ w'.heap.size := hf.size
  refine ⟨rfl, ⟨ev, ⟨hp, ht.v.accs hf (fun j hj => by obtain ⟨t, cs, a, b, _⟩ := hS j hj; exact ⟨t, cs, a, b⟩), ht.r.accs hf (fun j hj => by obtain ⟨t, cs, a, _, b⟩ := hS j hj; exact ⟨t, cs, a, b⟩)⟩, pub_U hu, hr, by show x.2.2.length ≤ _; omega, Nat.le_trans hs hsz⟩, fun _ => ⟨_, _, _, hb⟩, fun h => ?_, hf.below hs (fun y hy => ht.low hc hq y (by simp only [List.mem_cons, List.not_mem_nil, or_false] at hy ⊢; rcases hy with rfl | rfl | rfl <;> simp))⟩
  have h2 : (pubS c t x.1 f).2.2.dn = false := h
  obtain ⟨k1, k2, k3, k4, k5⟩ := pubS_kp h2 hv.2
  rw [if_neg (by rw [h2]; decide), k4, k5] at hb
  refine ⟨?_, k1⟩
  show LB w' q _ [.int .i64 (pubS c t x.1 f).2.1.fa, .int .i64 (pubS c t x.1 f).2.1.fb] _ 0 0
  rw [k2, k3]
  exact hb
theorem clm_step (hc : TC B p m k g hd c) (hq : B ≤ q) {x : St × List Rec × List Ev} {f : Fra} (h : TI B p m k g cap t d hd rv c E n w x) (hE : E + n ≤ 900000) (hv : LB w q 93 (cpost f) f 0 0 ∧ f.ln = 1) :
    Calls Try.prog 79 #[.pointer (some ⟨q, 0, none⟩), .pointer (some ⟨p, 0, none⟩)] w (GStep B (TI B p m k g cap t d hd rv c E) (fun w f => LB w q 93 (cpost f) f 0 0 ∧ f.ln = 1) q n w (clmX c x f)) := by
  obtain ⟨ev, ht, hu, hr, he, hs⟩ := h
  refine (claimer_any ht hc.l hc.i hv.1 hv.2 (by omega) hs hr).mono ?_
  rintro e w' ⟨ev', rfl, hp, hat, hb, hf⟩
  have hd1 : (clmS c x.2.1 x.1 x.2.2 f).2.2.2.dn = true := by unfold clmS; split <;> rfl
  have hl := @clm_len c x.1 f x.2.1 x.2.2
  refine ⟨rfl, ⟨ev', hp, clm_U hu, ?_, ?_, Nat.le_trans hs hf.size⟩, fun _ => ⟨_, _, _, hb⟩, fun h => ?_, hf.below hs (fun y hy => ht.low hc hq y hy)⟩
  · show ((clmS c x.2.1 x.1 x.2.2 f).2.2.1.length : Int) = c.ta
    rw [hl.2]
    exact hr
  · show (clmS c x.2.1 x.1 x.2.2 f).2.1.length ≤ _
    omega
  · have h2 : (clmS c x.2.1 x.1 x.2.2 f).2.2.2.dn = false := h
    rw [hd1] at h2
    cases h2
end
end Go.Proofs.Ytgipddeldddbnaa
