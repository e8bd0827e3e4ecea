/-
  Stage 10: next, the next machine of an actor.
  One owner and several thieves: what a step of one of their machines gives, beside the lists that the law keeps.
-/
import Derived.Test.YtplifdmfoeejaaaOncX
namespace Go.Proofs.Ytplifdmfoeejaaa
open Go Go.RowKit Go.Shelf
set_option linter.unusedSimpArgs false
set_option linter.unusedVariables false

/-- The machine that an actor gets. -/
def nextM (a : Nat) (ch num C : Int) : Mach := if 0 < a then .steal (fra1 2 0 1 2 C 0) else if ch.tmod 2 = 0 then .push (fra1 0 0 1 2 C num) else .pop (fra1 1 0 1 2 C 0)
/-- What next gives. -/
def NexD (X : Mach) (w : World) (e : Ending) (w' : World) : Prop := ∃ x : Nat, e = .returned (mval x X) ∧ MO w' x X ∧ w.heap.size ≤ x ∧ Below w.heap.size w w'
theorem next_any (a : Nat) (ch num C : Int) (hC : C ≤ 100) (w : World) :
    Calls Try.prog 23 #[qv 0 1 2 C, .int .i64 a, .int .i64 ch, .int .i64 num] w (NexD (nextM a ch num C) w) := by
  have HB := Lib.hid (below_one w (.cells (qcells 0 1 2 C) 25))
  unfold nextM
  by_cases h0 : 0 < a
  · rw [if_pos h0]
    have h1 : (0 : Int) < (a : Int) := by omega
    go_enter Try.func23, Try.ntmps23
    go_wp2_with fail
    (with_reducible refine (oSteal_any 0 1 2 C _).mono ?_)
    rintro e w1 ⟨x, rfl, ho, hx, hb⟩
    have HO := Lib.hid (And.intro ho (And.intro hx hb))
    clear ho hx hb
    go_wp2
    go_ret
    obtain ⟨ho, hx, hb⟩ := HO.out
    exact ⟨x, rfl, ⟨ho, stealOk1 C hC⟩, Nat.le_trans HB.out.size hx, HB.out.trans (hb.mono HB.out.size)⟩
  · rw [if_neg h0]
    obtain rfl : a = 0 := by omega
    rw [show ((0 : Nat) : Int) = 0 from rfl]
    by_cases hc : ch.tmod 2 = 0
    · rw [if_pos hc]
      have hc2 : (ch.tmod 2 == 0) = true := by simp [hc]
      go_enter Try.func23, Try.ntmps23
      go_wp2_with fail
      (with_reducible refine (oPush_any 0 1 2 C num _).mono ?_)
      rintro e w1 ⟨x, rfl, ho, hx, hb⟩
      have HO := Lib.hid (And.intro ho (And.intro hx hb))
      clear ho hx hb
      go_wp2
      go_ret
      obtain ⟨ho, hx, hb⟩ := HO.out
      exact ⟨x, rfl, ⟨ho, pushOk1 C hC num⟩, Nat.le_trans HB.out.size hx, HB.out.trans (hb.mono HB.out.size)⟩
    · rw [if_neg hc]
      have hc2 : (ch.tmod 2 == 0) = false := by simp [hc]
      go_enter Try.func23, Try.ntmps23
      go_wp2_with fail
      (with_reducible refine (oPop_any 0 1 2 C _).mono ?_)
      rintro e w1 ⟨x, rfl, ho, hx, hb⟩
      have HO := Lib.hid (And.intro ho (And.intro hx hb))
      clear ho hx hb
      go_wp2
      go_ret
      obtain ⟨ho, hx, hb⟩ := HO.out
      exact ⟨x, rfl, ⟨ho, popOk1 C hC⟩, Nat.le_trans HB.out.size hx, HB.out.trans (hb.mono HB.out.size)⟩
end Go.Proofs.Ytplifdmfoeejaaa

namespace Go.Proofs.Ytplifdmfoeejaaa
open Go Go.RowKit Go.Shelf
set_option linter.unusedSimpArgs false
set_option linter.unusedVariables false

/-- What becomes of the counts when a machine is done. -/
def Ended (N C t0 B : Nat) (s : St) (t : Nat) (l : List Int) (cl : Option Int) (M : List Mach) (D : List Int) (P : List Bool) (T : List Int) (a : Nat) (cd vl : Int) : Prop :=
  (cd = 0 ∧ ∃ d : Nat, D.getD a 0 = d ∧ d < N ∧ Inv N C t0 B s t l cl M (P.set d true) T) ∨ (cd = 1 ∧ ∃ d : Nat, vl = d ∧ d < N ∧ T.getD d 0 = 0 ∧ Inv N C t0 B s t l cl M P (T.set d 1)) ∨ (cd ≠ 0 ∧ cd ≠ 1 ∧ Inv N C t0 B s t l cl M P T)
/-- What a step gives. -/
def XStepped (w0 : World) (p m k g cap qb C t0 bx bd bp bt K N L B j a : Nat) (q : Nat → Nat) (M : List Mach) (D : List Int) (P : List Bool) (T : List Int) (e : Ending) (w' : World) : Prop :=
  (e = .returned (.bool false) ∧ ∃ (s' : St) (M' : List Mach) (t' : Nat) (l' : List Int) (cl' : Option Int), XW w0 p m k g cap qb C bd bp bt K N q s' M' D P T w' ∧ XS w0 bx K q M' w' ∧ Inv N C t0 B s' t' l' cl' M' P T ∧ Prog L K (j + 1) M') ∨
  (e = .returned (.bool true) ∧ ∃ (s' : St) (t' : Nat) (l' : List Int) (cl' : Option Int) (cd vl : Int) (ty : TypeId) (post : List Value) (f' : Fra), OB w' (q a) ty post { f' with ln := 0 } cd vl ∧ XW w0 p m k g cap qb C bd bp bt K N q s' (M.set a .no) D P T w' ∧ XS w0 bx K q M w' ∧ Prog L K (j + 1) (M.set a .no) ∧
    Ended N C t0 B s' t' l' cl' (M.set a .no) D P T a cd vl)
section
variable {w0 w w' : World} {p m k g cap qb C t0 bd bp bt bx K N L B j a : Nat} {q : Nat → Nat} {s s' : St} {M : List Mach} {D : List Int} {P : List Bool} {T : List Int} {t : Nat} {l : List Int} {cl : Option Int} {f : Fra}
/-- Whose machine pushes or pops is the owner. -/
theorem Inv.owner (h : Inv N C t0 B s t l cl M P T) {X : Mach} (hX : M.getD a .no = X) (h1 : X ≠ .no) (h2 : ∀ f, X ≠ .steal f) : a = 0 := by
  rcases Nat.eq_zero_or_pos a with e | e
  · exact e
  · rcases h.th a e with e2 | ⟨g, e2, _⟩
    · exact absurd (hX.symm.trans e2) h1
    · exact absurd (hX.symm.trans e2) (h2 g)
theorem Inv.other (h : Inv N C t0 B s t l cl M P T) (hX : M.getD a .no = .steal f) : 0 < a := by
  rcases Nat.eq_zero_or_pos a with e | e
  · subst e
    exact absurd hX (h.o0 f)
  · exact e
theorem Prog.stepped (h : Prog L K j M) (hM : M.length = K) {X X' : Mach} (hX : M.getD a .no = X) (hn : X ≠ .no) (ha : a < K) (haj : L ≤ j → a = (j - L) / 12) (h9 : X' = .no ∨ (1 ≤ X'.line ∧ X'.line ≤ 9)) (hl : X' ≠ .no → X.line + 1 ≤ X'.line) : Prog L K (j + 1) (M.set a X') := by
  refine h.next hM X' haj ?_
  rcases h9 with e | ⟨e1, e2⟩
  · exact .inl e
  · by_cases hx : X' = .no
    · exact .inl hx
    · refine .inr ⟨e1, e2, ?_⟩
      have := hl hx
      rcases h a ha with e | ⟨_, _, e3⟩
      · exact absurd (hX.symm.trans e) hn
      · rw [hX] at e3
        omega
theorem XW.push (h : XW w0 p m k g cap qb C bd bp bt K N q s M D P T w) (hx : XS w0 bx K q M w) (hi : Inv N C t0 B s t l cl M P T) (hp : Prog L K j M) (ha : a < K) (haj : L ≤ j → a = (j - L) / 12) (hX : M.getD a .no = .push f) :
    Calls Try.prog 72 #[.pointer (some ⟨q a, 0, none⟩), .pointer (some ⟨p, 0, none⟩)] w (XStepped w0 p m k g cap qb C t0 bx bd bp bt K N L B j a q M D P T) := by
  have hml := h.ml
  obtain rfl : a = 0 := hi.owner hX (by intro e; cases e) (by intro f e; cases e)
  have hmo := h.mo 0 ha
  rw [hX] at hmo
  obtain ⟨ho, ok⟩ := hmo
  have hn : M.getD 0 .no ≠ .no := by rw [hX]; intro e; cases e
  have hd0 := h.d0 f hX
  obtain ⟨L', k1, k2⟩ := hi.push_step (by omega) hX
  refine (pusher_any h.aw.e ho ok.1 ok.2.1 ok.2.2.2).mono ?_
  rintro en w' ⟨rfl, hpe, hb, hf⟩
  have hN := push_keeps.n s f h.aw.n ok
  have hxs := hx.step h ho (.inl rfl) hf
  cases hd : (pushS s f).2.2.dn with
  | false =>
    obtain ⟨z1, z2⟩ := push_keeps.z s f hd
    have ok' := push_keeps.o s f h.aw.n ok hd
    have efa := (push_keeps.q s f).1
    rw [hd, z1, z2] at hb
    simp only [Bool.false_eq_true, if_false] at hb
    rw [← efa] at hb
    have hmo' : MO w' (q 0) (.push (pushS s f).2.1) := ⟨hb, ok'⟩
    refine .inl ⟨rfl, _, M.set 0 (.push (pushS s f).2.1), _, _, _, h.step ha hn ho (.inl rfl) hpe hf hN hmo' (fun f2 hf2 => ?_), hxs.same (xcells_on q M K 0 _ hml (by rw [hX]; rfl)), k1 hd, hp.stepped hml hX (by intro e; cases e) ha haj hmo'.line (fun _ => push_line (by have := ok.1; omega) hd)⟩
    rw [set_at _ _ _ _ (by omega)] at hf2
    injection hf2 with hf2
    subst hf2
    rw [efa]
    exact hd0
  | true =>
    rw [hd] at hb
    refine .inr ⟨rfl, _, t, L', cl, _, _, _, _, _, hb, h.step ha hn ho (.inl rfl) hpe hf hN trivial (fun f2 hf2 => ?_), hxs, hp.stepped hml hX (by intro e; cases e) ha haj (.inl rfl) (fun e => absurd rfl e), ?_⟩
    · rw [set_at _ _ _ _ (by omega)] at hf2
      cases hf2
    · rcases k2 hd with ⟨c0, d, e1, e2, e3⟩ | ⟨c0, c1, e3⟩
      · exact .inl ⟨c0, d, by rw [← hd0.1]; exact e1, e2, e3⟩
      · exact .inr (.inr ⟨c0, c1, e3⟩)
theorem XW.pop (h : XW w0 p m k g cap qb C bd bp bt K N q s M D P T w) (hx : XS w0 bx K q M w) (hi : Inv N C t0 B s t l cl M P T) (hp : Prog L K j M) (ha : a < K) (haj : L ≤ j → a = (j - L) / 12) (hX : M.getD a .no = .pop f) :
    Calls Try.prog 82 #[.pointer (some ⟨q a, 0, none⟩), .pointer (some ⟨p, 0, none⟩)] w (XStepped w0 p m k g cap qb C t0 bx bd bp bt K N L B j a q M D P T) := by
  have hml := h.ml
  obtain rfl : a = 0 := hi.owner hX (by intro e; cases e) (by intro f e; cases e)
  have hmo := h.mo 0 ha
  rw [hX] at hmo
  obtain ⟨ho, ok⟩ := hmo
  have hn : M.getD 0 .no ≠ .no := by rw [hX]; intro e; cases e
  obtain ⟨T', L', cl', k1, k2⟩ := hi.pop_step (by omega) hX
  refine (popper_any h.aw.e ho ok.1 ok.2.2.2).mono ?_
  rintro en w' ⟨rfl, hpe, hb, hf⟩
  have hN := pop_keeps.n s f h.aw.n ok
  have hxs := hx.step h ho (.inr (.inl rfl)) hf
  cases hd : (popS s f).2.2.dn with
  | false =>
    obtain ⟨z1, z2⟩ := pop_keeps.z s f hd
    have ok' := pop_keeps.o s f h.aw.n ok hd
    rw [hd, z1, z2] at hb
    simp only [Bool.false_eq_true, if_false] at hb
    have hmo' : MO w' (q 0) (.pop (popS s f).2.1) := ⟨hb, ok'⟩
    refine .inl ⟨rfl, _, M.set 0 (.pop (popS s f).2.1), _, _, _, h.step ha hn ho (.inr (.inl rfl)) hpe hf hN hmo' (fun f2 hf2 => ?_), hxs.same (xcells_on q M K 0 _ hml (by rw [hX]; rfl)), k1 hd, hp.stepped hml hX (by intro e; cases e) ha haj hmo'.line (fun _ => pop_line (by have := ok.1; omega) hd)⟩
    rw [set_at _ _ _ _ (by omega)] at hf2
    cases hf2
  | true =>
    rw [hd] at hb
    refine .inr ⟨rfl, _, T', L', none, _, _, _, _, _, hb, h.step ha hn ho (.inr (.inl rfl)) hpe hf hN trivial (fun f2 hf2 => ?_), hxs, hp.stepped hml hX (by intro e; cases e) ha haj (.inl rfl) (fun e => absurd rfl e), ?_⟩
    · rw [set_at _ _ _ _ (by omega)] at hf2
      cases hf2
    · rcases k2 hd with ⟨c1, d, e1, e2, e3, e4⟩ | ⟨c0, c1, e3⟩
      · exact .inr (.inl ⟨c1, d, e1, e2, e3, e4⟩)
      · exact .inr (.inr ⟨c0, c1, e3⟩)
theorem XW.steal (h : XW w0 p m k g cap qb C bd bp bt K N q s M D P T w) (hx : XS w0 bx K q M w) (hi : Inv N C t0 B s t l cl M P T) (hp : Prog L K j M) (ha : a < K) (haj : L ≤ j → a = (j - L) / 12) (hX : M.getD a .no = .steal f) :
    Calls Try.prog 87 #[.pointer (some ⟨q a, 0, none⟩), .pointer (some ⟨p, 0, none⟩)] w (XStepped w0 p m k g cap qb C t0 bx bd bp bt K N L B j a q M D P T) := by
  have hml := h.ml
  have ha0 := hi.other hX
  have hmo := h.mo a ha
  rw [hX] at hmo
  obtain ⟨ho, ok⟩ := hmo
  have hn : M.getD a .no ≠ .no := by rw [hX]; intro e; cases e
  obtain ⟨T', L', k1, k2⟩ := hi.steal_step (by omega) ha0 hX
  refine (stealer_any h.aw.e ho ok.1 ok.2.2.1 ok.2.2.2).mono ?_
  rintro en w' ⟨rfl, hpe, hb, hf⟩
  have hN := steal_keeps.n s f h.aw.n ok
  have hxs := hx.step h ho (.inr (.inr rfl)) hf
  have hd0 : ∀ X : Mach, ∀ f2, (M.set a X).getD 0 .no = .push f2 → f2.fa = D.getD 0 0 ∧ 0 ≤ D.getD 0 0 ∧ D.getD 0 0 < N := fun X f2 hf2 => by
    rw [set_off _ _ _ _ _ (by omega)] at hf2
    exact h.d0 f2 hf2
  cases hd : (stealS s f).2.2.dn with
  | false =>
    obtain ⟨z1, z2⟩ := steal_keeps.z s f hd
    have ok' := steal_keeps.o s f h.aw.n ok hd
    rw [hd, z1, z2] at hb
    simp only [Bool.false_eq_true, if_false] at hb
    have hmo' : MO w' (q a) (.steal (stealS s f).2.1) := ⟨hb, ok'⟩
    exact .inl ⟨rfl, _, M.set a (.steal (stealS s f).2.1), _, _, _, h.step ha hn ho (.inr (.inr rfl)) hpe hf hN hmo' (hd0 _), hxs.same (xcells_on q M K a _ hml (by rw [hX]; rfl)), k1 hd, hp.stepped hml hX (by intro e; cases e) ha haj hmo'.line (fun _ => steal_line (by have := ok.1; omega) hd)⟩
  | true =>
    rw [hd] at hb
    refine .inr ⟨rfl, _, T', L', cl, _, _, _, _, _, hb, h.step ha hn ho (.inr (.inr rfl)) hpe hf hN trivial (hd0 _), hxs, hp.stepped hml hX (by intro e; cases e) ha haj (.inl rfl) (fun e => absurd rfl e), ?_⟩
    rcases k2 hd with ⟨c1, d, e1, e2, e3, e4⟩ | ⟨c1, e3⟩
    · exact .inr (.inl ⟨c1, d, e1, e2, e3, e4⟩)
    · exact .inr (.inr ⟨steal_cd hd, c1, e3⟩)
/-- What next gives, its value's form told. -/
def NexE (X : Mach) (w : World) (e : Ending) (w' : World) : Prop := ∃ (x : Nat) (ty : TypeId), e = .returned (.iface ty (.pointer (some ⟨x, 0, none⟩))) ∧ mval x X = .iface ty (.pointer (some ⟨x, 0, none⟩)) ∧ MO w' x X ∧ w.heap.size ≤ x ∧ Below w.heap.size w w'
theorem next_told (a : Nat) (ch num C : Int) (hC : C ≤ 100) (w : World) : Calls Try.prog 23 #[qv 0 1 2 C, .int .i64 a, .int .i64 ch, .int .i64 num] w (NexE (nextM a ch num C) w) := by
  refine (next_any a ch num C hC w).mono ?_
  rintro e w' ⟨x, rfl, h⟩
  have hn : nextM a ch num C ≠ .no := by
    unfold nextM
    split
    · intro e; cases e
    · split <;> (intro e; cases e)
  obtain ⟨ty, hty⟩ := mval_live x hn
  exact ⟨x, ty, by rw [hty], hty, h⟩
/-- .. and of a new machine. -/
theorem next_steal (ha : 0 < a) (ch num : Int) (hC : (C : Int) ≤ 100) (w : World) : Calls Try.prog 23 #[qv 0 1 2 C, .int .i64 a, .int .i64 ch, .int .i64 num] w fun e w' => ∃ x : Nat, e = .returned (.iface 98 (.pointer (some ⟨x, 0, none⟩))) ∧ MO w' x (.steal (fra1 2 0 1 2 C 0)) ∧ w.heap.size ≤ x ∧ Below w.heap.size w w' := by
  refine (next_any a ch num C hC w).mono ?_
  rintro e w' ⟨x, rfl, h⟩
  unfold nextM at *
  rw [if_pos ha] at *
  exact ⟨x, rfl, h⟩
theorem next_push (ha : a = 0) (ch num : Int) (hc : ch.tmod 2 = 0) (hC : (C : Int) ≤ 100) (w : World) : Calls Try.prog 23 #[qv 0 1 2 C, .int .i64 a, .int .i64 ch, .int .i64 num] w fun e w' => ∃ x : Nat, e = .returned (.iface 81 (.pointer (some ⟨x, 0, none⟩))) ∧ MO w' x (.push (fra1 0 0 1 2 C num)) ∧ w.heap.size ≤ x ∧ Below w.heap.size w w' := by
  refine (next_any a ch num C hC w).mono ?_
  rintro e w' ⟨x, rfl, h⟩
  unfold nextM at *
  rw [if_neg (by omega), if_pos hc] at *
  exact ⟨x, rfl, h⟩
theorem next_pop (ha : a = 0) (ch num : Int) (hc : ¬ ch.tmod 2 = 0) (hC : (C : Int) ≤ 100) (w : World) : Calls Try.prog 23 #[qv 0 1 2 C, .int .i64 a, .int .i64 ch, .int .i64 num] w fun e w' => ∃ x : Nat, e = .returned (.iface 89 (.pointer (some ⟨x, 0, none⟩))) ∧ MO w' x (.pop (fra1 1 0 1 2 C 0)) ∧ w.heap.size ≤ x ∧ Below w.heap.size w w' := by
  refine (next_any a ch num C hC w).mono ?_
  rintro e w' ⟨x, rfl, h⟩
  unfold nextM at *
  rw [if_neg (by omega), if_neg hc] at *
  exact ⟨x, rfl, h⟩
end
end Go.Proofs.Ytplifdmfoeejaaa
