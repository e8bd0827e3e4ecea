/-
  Plain mathematics of histories: what a step of a pop and of a steal does to all. No function is named.
  Plain mathematics of histories: the beginning, and what holds when all machines are done. No function is named.
  Plain mathematics of Play: players with acts on a deque; what a pick does; what becomes of all when the players go on until nothing is left. No function is named.
-/
import Derived.Test.YtjehiekmlbeaeaaGreatMgAK
namespace Go.Proofs.YtjehiekmlbeaeaaGreat
open Go Go.RowKit
set_option linter.unusedSimpArgs false
set_option linter.unusedVariables false

section
variable {n t0 now : Nat} {s : St} {T : Nat} {L : List Int} {cl : Option Int} {A : List AcT} {out O1 O2 : List OpR}
/-- A pop whose last entry is about to be taken: its line 4 goes on to 6, its line 6 takes it. -/
theorem pop_doom {f : Fra} (h : CL s n t0 T L) (hw : PoW s n T L f cl) (hz : L.length = 1) (hl : f.ln = 4 ∨ f.ln = 6) :
    (popS s f).2.2.dn = false ∧ (f.ln = 4 → (popS s f).2.1.ln = 6 ∧ (popS s f).1.old 1 = s.old 1 ∧ (popS s f).1.old 0 = s.old 0) ∧ (f.ln = 6 → (popS s f).1.old 0 = ((T + 1 : Nat) : Int)) := by
  have hlim := h.lim
  obtain ⟨h1, h2, h3, h4, hw⟩ := hw
  rcases hl with hl | hl
  · rw [popS_4 hl]
    refine ⟨rfl, fun _ => ⟨?_, go_id_old _ _ _ _, go_id_old _ _ _ _⟩, fun e => by omega⟩
    have hu : f.fu = ((T + L.length : Nat) : Int) := by omega
    have hs : sub1 f.fu = ((T + L.length - 1 : Nat) : Int) := by
      rw [hu]
      show IntKind.u64.wrap _ = _
      rw [IntWalk.u64_in _ (by omega)]
      omega
    have hsz : sizeI (sub1 f.fu) (s.old f.qt) = (L.length : Int) - 1 := by
      rw [hs, h1, h.top, size_int (by omega) (by omega) (by omega)]
      omega
    show pop4 _ = 6
    rw [hsz, hz]
    decide
  · rw [popS_6 hl]
    refine ⟨rfl, fun e => by omega, fun _ => ?_⟩
    have hv : f.fv = ((T + L.length - 1 : Nat) : Int) := by omega
    show (s.go 3 f.qt (fun x => if x = f.fv then add1 f.fv else x)).old 0 = _
    rw [h1, go_old _ _ _ _ h.has0, h.top, hv, if_pos (by omega)]
    show IntKind.u64.wrap _ = _
    rw [IntWalk.u64_in _ (by omega)]
    omega
/-- A step of the owner's pop. -/
theorem HI.pop (h : HI n t0 now s T L cl A out O1 O2) (hm : 0 < A.length) (hn : now < 200000) {f : Fra} (h0 : (A.getD 0 .no).m = .pop f) :
    ((popS s f).2.2.dn = false → ∃ T' L' cl' O1' O2', HI n t0 (now + 1) (popS s f).1 T' L' cl' (A.set 0 ⟨.pop (popS s f).2.1, (A.getD 0 .no).sn, (A.getD 0 .no).vl⟩) out O1' O2') ∧
    ((popS s f).2.2.dn = true → ∃ T' L' cl' O1', HI n t0 (now + 1) (popS s f).1 T' L' cl' (A.set 0 ⟨.no, (A.getD 0 .no).sn, (A.getD 0 .no).vl⟩) (out ++ [⟨1, 0, (A.getD 0 .no).sn, now, (popS s f).2.2.cd, (popS s f).2.2.vl⟩]) O1' []) := by
  have hw := h.hm.ow
  have hli := h.hm.li
  rw [h0] at hw
  replace hw : PoW s n T L f cl := hw
  have hsn := h.hm.sn 0 (by rw [h0]; exact fun e => by cases e)
  have hgo := h.go
  obtain ⟨T', L', cl', k0, k1, k2, k3, k4⟩ := pop_fine h.hm.cs hw
  have e1 : ∀ x a, 0 < a → (A.set 0 x).getD a .no = A.getD a .no := fun x a ha => set_off _ _ _ _ _ (by omega)
  have e0 : ∀ x, (A.set 0 x).getD 0 .no = x := fun x => set_at _ _ _ _ hm
  refine ⟨fun hd => ?_, fun hd => ?_⟩
  · obtain ⟨p1, p2⟩ := k3 hd
    have hM := h.hm.own hm hn ⟨.pop (popS s f).2.1, (A.getD 0 .no).sn, (A.getD 0 .no).vl⟩ k1 p1 (fun g e => by cases e) k2 (fun _ => hsn) (fun g e => by cases e) (by omega)
    rcases p2 with ⟨rfl, rfl, rfl⟩ | ⟨rfl, x, rfl, rfl⟩
    · refine ⟨_, _, _, O1, O2, hM, h.gv.next, by rw [e0]; exact hgo.next, ⟨fun e => ?_, fun o ho => ?_, fun a g ha => ?_⟩⟩
      · obtain ⟨d1, d2, g, d3, d4⟩ := h.hl.dm e
        rw [h0] at d3
        injection d3 with d3
        subst d3
        obtain ⟨q1, q2, q3⟩ := pop_doom h.hm.cs hw d1 d4
        rcases d4 with d4 | d4
        · rw [e0]
          refine ⟨d1, by rw [(q2 d4).2.1]; exact d2, _, rfl, .inr (q2 d4).1⟩
        · have := q3 d4
          rw [k1.top] at this
          omega
      · rw [e0]
        refine ⟨(h.hl.ot o ho).1, fun a g ha => ?_⟩
        rw [e1 _ a ha]
        exact (h.hl.ot o ho).2 a g ha
      · rw [e1 _ a ha]
        exact h.hl.ab a g ha
    · have hins := h.gv.ins (L' := L') (cRec (A.getD 0 .no).sn x) (by rw [List.map_append]; exact appO_pop rfl rfl) (fun e => by have := h.gv.e2 e; simpa using this) (fun o ho => (h.hl.ot o ho).1) ⟨Int.le_refl _, hsn.1, hsn.2, by have := late_is; show (now : Int) ≤ late; omega⟩ (.inr (.inl ⟨rfl, .inl rfl⟩))
      have hp : (O1 ++ cRec (A.getD 0 .no).sn x :: O2).Perm (cRec (A.getD 0 .no).sn x :: (O1 ++ O2)) := List.perm_middle
      refine ⟨_, _, _, _, [], hM, hins, by rw [e0, List.append_nil]; exact hgo.claim hp, ⟨fun e => absurd rfl e, fun o ho => by simp at ho, fun a g ha => ?_⟩⟩
      rw [e1 _ a ha]
      intro g1 g2 g3
      rw [List.append_nil]
      refine ⟨cRec (A.getD 0 .no).sn x, hp.symm.subset (List.mem_cons_self ..), rfl, by show (1 : Int) ≠ 0; decide, ?_⟩
      have := h.hm.sl a g ha g1 g2
      have := late_is
      show _ < late
      omega
  · obtain ⟨p1, rfl, rfl, p2⟩ := k4 hd
    obtain rfl : O2 = [] := by
      by_cases e : O2 = []
      · exact e
      · obtain ⟨d1, d2, g, d3, d4⟩ := h.hl.dm e
        rw [h0] at d3
        injection d3 with d3
        subst d3
        rw [(pop_doom h.hm.cs hw d1 d4).1] at hd
        cases hd
    have hM := h.hm.own (cl' := none) hm hn ⟨.no, (A.getD 0 .no).sn, (A.getD 0 .no).vl⟩ k1 ⟨p1, rfl⟩ (fun g e => by cases e) k2 (fun _ => hsn) (fun g e => by cases e) (by omega)
    rcases p2 with ⟨c1, x, rfl, hv⟩ | ⟨c2, rfl, rfl⟩
    · have hfr : ∀ o : OpR, o ∈ O1 ++ [] → o.a ≤ (now : Int) ∧ o.a ≤ o.b := fun o ho => by have := h.gv.fr o ho; omega
      have hr := hgo.ret (by have := late_is; show (now : Int) < late; omega) hfr
      have heq : fixO now (cRec (A.getD 0 .no).sn x) = ⟨1, 0, (A.getD 0 .no).sn, now, (popS s f).2.2.cd, (popS s f).2.2.vl⟩ := by
        unfold fixO
        rw [if_pos (show (cRec (A.getD 0 .no).sn x).b = late from rfl), c1, hv, wrapI]
        rfl
      rw [heq] at hr
      refine ⟨_, _, none, _, hM, h.gv.fix, by rw [e0]; simpa using hr, ⟨fun e => absurd rfl e, fun o ho => by simp at ho, fun a g ha => ?_⟩⟩
      rw [e1 _ a ha]
      intro g1 g2 g3
      obtain ⟨o, ho, r1, r2, r3⟩ := h.hl.ab a g ha g1 g2 g3
      rw [List.append_nil] at ho ⊢
      refine ⟨fixO now o, List.mem_map_of_mem ho, by rw [(fixO_k now o).2.2.2.1]; exact r1, by rw [(fixO_k now o).1]; exact r2, ?_⟩
      have := h.hm.sl a g ha g1 g2
      rcases fixO_b now o with ⟨e, _⟩ | ⟨e, _⟩
      · omega
      · omega
    · have hins := h.gv.ins (L' := []) ⟨1, 0, (A.getD 0 .no).sn, now, (popS s f).2.2.cd, (popS s f).2.2.vl⟩ (appO_none c2 rfl) (fun _ => rfl) (fun x hx => by simp at hx) ⟨Int.le_refl _, hsn.1, hsn.2, Int.le_refl _⟩ (.inr (.inl ⟨rfl, .inr c2⟩))
      have hp : (O1 ++ (⟨1, 0, (A.getD 0 .no).sn, now, (popS s f).2.2.cd, (popS s f).2.2.vl⟩ : OpR) :: []).Perm ((⟨1, 0, (A.getD 0 .no).sn, now, (popS s f).2.2.cd, (popS s f).2.2.vl⟩ : OpR) :: (O1 ++ [])) := List.perm_middle
      refine ⟨_, _, none, _, hM, hins, by rw [e0, List.append_nil]; exact hgo.done _ hp rfl (fun e => by replace e : (popS s f).2.2.cd = 4 := e; omega), ⟨fun e => absurd rfl e, fun o ho => by simp at ho, fun a g ha => ?_⟩⟩
      · rw [e1 _ a ha]
        intro g1 g2 g3
        obtain ⟨o, ho, r⟩ := h.hl.ab a g ha g1 g2 g3
        rw [List.append_nil]
        exact ⟨o, hp.symm.subset (List.mem_cons_of_mem _ ho), r⟩

/-- A step of a thief's steal. -/
theorem HI.steal (h : HI n t0 now s T L cl A out O1 O2) {a : Nat} (ha : 0 < a) (hm : a < A.length) (hn : now < 200000) {f : Fra} (h0 : (A.getD a .no).m = .steal f) :
    ((stealS s f).2.2.dn = false → HI n t0 (now + 1) (stealS s f).1 T L cl (A.set a ⟨.steal (stealS s f).2.1, (A.getD a .no).sn, (A.getD a .no).vl⟩) out O1 O2) ∧
    ((stealS s f).2.2.dn = true → ∃ T' L' O1' O2', HI n t0 (now + 1) (stealS s f).1 T' L' cl (A.set a ⟨.no, (A.getD a .no).sn, (A.getD a .no).vl⟩) (out ++ [⟨2, a, (A.getD a .no).sn, now, (stealS s f).2.2.cd, (stealS s f).2.2.vl⟩]) O1' O2') := by
  have hf : TH n t0 T L f := by
    rcases h.hm.th a ha with e | ⟨g, e, kg⟩
    · rw [h0] at e
      cases e
    · rw [h0] at e
      injection e with e
      rw [e]
      exact kg
  have hsn := h.hm.sn a (by rw [h0]; exact fun e => by cases e)
  have hgo := h.go
  obtain ⟨T', L', k0, k1, k2, k3, k6, k4, k5⟩ := thief_fine h.hm.cs h.hm.ow hf
  have e0 : ∀ x, (A.set a x).getD a .no = x := fun x => set_at _ _ _ _ hm
  have e1 : ∀ x b, a ≠ b → (A.set a x).getD b .no = A.getD b .no := fun x b hb => set_off _ _ _ _ _ hb
  have e2 : ∀ x, (A.set a x).getD 0 .no = A.getD 0 .no := fun x => e1 x 0 (by omega)
  refine ⟨fun hd => ?_, fun hd => ?_⟩
  · obtain ⟨p1, rfl, rfl, p2⟩ := k4 hd
    refine ⟨h.hm.thief ha hm hn _ k1 k2 k3 (.inr ⟨_, rfl, p1⟩) (fun _ => hsn) (by omega), h.gv.next, by rw [e2]; exact hgo.next, ⟨fun e => ?_, fun o ho => ?_, fun b g hb => ?_⟩⟩
    · rw [e2, k6 rfl]
      exact h.hl.dm e
    · rw [e2]
      refine ⟨(h.hl.ot o ho).1, fun b g hb => ?_⟩
      by_cases hab : a = b
      · subst hab
        rw [e0]
        rintro ⟨⟩ g2 g3
        have hd2 := (h.hl.dm (fun e => by rw [e] at ho; simp at ho)).2.1
        rcases p2 with ⟨q1, q2, q3⟩ | ⟨q1, q2, q3, q4⟩ | ⟨q1, q2, q3⟩
        · omega
        · omega
        · exact (h.hl.ot o ho).2 a f ha h0 (.inl q1) (by rw [← q3]; exact g3)
      · rw [e1 _ b hab]
        exact (h.hl.ot o ho).2 b g hb
    · by_cases hab : a = b
      · subst hab
        rw [e0]
        rintro ⟨⟩ g2 g3
        rcases p2 with ⟨q1, q2, q3⟩ | ⟨q1, q2, q3, q4⟩ | ⟨q1, q2, q3⟩
        · exact absurd q3 g3
        · exact h.hl.ab a f ha h0 (by omega) (by rw [← q3]; exact g3)
        · exact h.hl.ab a f ha h0 (by omega) (by rw [← q3]; exact g3)
      · rw [e1 _ b hab]
        exact h.hl.ab b g hb
  · have hM := h.hm.thief (x := ⟨.no, (A.getD a .no).sn, (A.getD a .no).vl⟩) ha hm hn k1 k2 k3 (.inl rfl) (fun e => absurd rfl e) (by omega)
    have hfr : ∀ o : OpR, o = ⟨2, a, (A.getD a .no).sn, now, (stealS s f).2.2.cd, (stealS s f).2.2.vl⟩ → 0 ≤ o.m ∧ 0 ≤ o.a ∧ o.a ≤ now ∧ now ≤ o.b := fun o e => by
      subst e
      exact ⟨by show (0 : Int) ≤ (a : Int); omega, hsn.1, hsn.2, Int.le_refl _⟩
    -- the other thieves, when Top stands
    have hab : ∀ O : List OpR, (∀ x, x ∈ O1 ++ O2 → x ∈ O) → ∀ b g, 0 < b → ((A.set a ⟨.no, (A.getD a .no).sn, (A.getD a .no).vl⟩).getD b .no).m = .steal g → g.ln ≠ 1 → g.fv ≠ T → ∃ o, o ∈ O ∧ o.c = 1 ∧ o.k ≠ 0 ∧ ((A.set a ⟨.no, (A.getD a .no).sn, (A.getD a .no).vl⟩).getD b .no).sn < o.b := by
      intro O hO b g hb
      by_cases hab : a = b
      · subst hab
        rw [e0]
        rintro ⟨⟩
      · rw [e1 _ b hab]
        intro g1 g2 g3
        obtain ⟨o, ho, r⟩ := h.hl.ab b g hb g1 g2 g3
        exact ⟨o, hO o ho, r⟩
    -- no effect
    have hidle : ∀ o : OpR, o = ⟨2, a, (A.getD a .no).sn, now, (stealS s f).2.2.cd, (stealS s f).2.2.vl⟩ → (stealS s f).2.2.cd = 2 ∨ (stealS s f).2.2.cd = 4 → L' = L → T' = T → ((stealS s f).2.2.cd = 2 → L = [] ∨ (L.length = 1 ∧ s.old 1 = T ∧ ∃ f, (A.getD 0 .no).m = .pop f ∧ (f.ln = 4 ∨ f.ln = 6))) →
        ((stealS s f).2.2.cd = 4 → Rival (O1 ++ O2) o) → ∃ T' L' O1' O2', HI n t0 (now + 1) (stealS s f).1 T' L' cl (A.set a ⟨.no, (A.getD a .no).sn, (A.getD a .no).vl⟩) (out ++ [o]) O1' O2' := by
      intro o he hc hL hT hem hri
      subst hL; subst hT
      have hok : Idle o := by rw [he]; exact ⟨rfl, hc⟩
      have hoc : o.c = (stealS s f).2.2.cd := by rw [he]
      by_cases hz : O2 = [] ∧ ((stealS s f).2.2.cd = 2 → L' = [])
      · obtain ⟨rfl, hz⟩ := hz
        have ha' : appO n o (L'.map wrap64) = some (L'.map wrap64) := by
          rcases hc with e | e
          · exact appO_none (by omega) (by rw [hz e]; rfl)
          · exact appO_abort (by omega)
        have hp : (O1 ++ o :: []).Perm (o :: (O1 ++ [])) := List.perm_middle
        refine ⟨_, _, O1 ++ o :: [], [], hM, h.gv.ins o ha' (fun e => absurd rfl e) (fun x hx => by simp at hx) (hfr o he) (.inr (.inr ⟨hok.1, hok.2.elim (fun e => .inr (.inl e)) (fun e => .inr (.inr e))⟩)), ?_, ⟨fun e => absurd rfl e, fun o ho => by simp at ho, ?_⟩⟩
        · rw [e2, List.append_nil]
          refine hgo.done o hp (by rw [he]) (fun e => ⟨hok.1, (hri (by omega)).mono fun x hx => hp.symm.subset (List.mem_cons_of_mem _ hx)⟩)
        · rw [List.append_nil]
          exact hab _ fun x hx => hp.symm.subset (List.mem_cons_of_mem _ hx)
      · have hdm : L'.length = 1 ∧ s.old 1 = T' ∧ ∃ f, (A.getD 0 .no).m = .pop f ∧ (f.ln = 4 ∨ f.ln = 6) := by
          by_cases e : O2 = []
          · rcases hc with e' | e'
            · rcases hem e' with k | k
              · exact absurd ⟨e, fun _ => k⟩ hz
              · exact k
            · exact absurd ⟨e, fun e'' => by omega⟩ hz
          · exact h.hl.dm e
        have hp : (O1 ++ (O2 ++ [o])).Perm (o :: (O1 ++ O2)) := by
          rw [← List.append_assoc]
          exact List.perm_append_singleton _ _
        refine ⟨_, _, O1, O2 ++ [o], hM, h.gv.idle o hdm.1 hok (hfr o he), ?_, ⟨fun _ => ?_, fun x hx => ?_, ?_⟩⟩
        · rw [e2]
          exact hgo.done o hp (by rw [he]) (fun e => ⟨hok.1, (hri (by omega)).mono fun x hx => hp.symm.subset (List.mem_cons_of_mem _ hx)⟩)
        · rw [e2, k6 rfl]
          exact hdm
        · rw [e2]
          rcases List.mem_append.1 hx with hx | hx
          · refine ⟨(h.hl.ot x hx).1, fun b g hb => ?_⟩
            by_cases hab : a = b
            · subst hab
              rw [e0]
              rintro ⟨⟩
            · rw [e1 _ b hab]
              exact (h.hl.ot x hx).2 b g hb
          · have hx' : x.b = now := by rw [List.mem_singleton.1 hx, he]
            obtain ⟨_, _, f', d3, _⟩ := hdm
            refine ⟨?_, fun b g hb => ?_⟩
            · have := h.hm.sn 0 (by rw [d3]; exact fun e => by cases e)
              omega
            · by_cases hab : a = b
              · subst hab
                rw [e0]
                rintro ⟨⟩
              · rw [e1 _ b hab]
                intro g1 _ _
                have := h.hm.sn b (by rw [g1]; exact fun e => by cases e)
                omega
        · exact hab _ fun x hx => hp.symm.subset (List.mem_cons_of_mem _ hx)
    rcases k5 hd with ⟨c1, hl, hv, rfl, x, rfl, hvl⟩ | ⟨c2, hl, hL, hT, hb, hvl⟩ | ⟨c4, hl, hv, hL, hT, hvl⟩
    · have hp : ∀ o : OpR, (O1 ++ o :: O2).Perm (o :: (O1 ++ O2)) := fun o => List.perm_middle
      have hins := h.gv.ins (L' := L') ⟨2, a, (A.getD a .no).sn, now, (stealS s f).2.2.cd, (stealS s f).2.2.vl⟩ (by rw [List.map_cons, ← hvl]; exact appO_steal c1 rfl) (fun e => by have := h.gv.e2 e; simpa using this)
        (fun o ho => (h.hl.ot o ho).2 a f ha h0 (.inr hl) hv) (hfr _ rfl) (.inr (.inr ⟨rfl, .inl c1⟩))
      refine ⟨_, _, _, [], hM, hins, ?_, ⟨fun e => absurd rfl e, fun o ho => by simp at ho, fun b g hb => ?_⟩⟩
      · rw [e2, List.append_nil]
        exact hgo.done _ (hp _) rfl (fun e => by replace e : (stealS s f).2.2.cd = 4 := e; omega)
      · by_cases hab : a = b
        · subst hab
          rw [e0]
          rintro ⟨⟩
        · rw [e1 _ b hab, List.append_nil]
          intro g1 g2 g3
          refine ⟨_, (hp _).symm.subset (List.mem_cons_self ..), c1, by show (2 : Int) ≠ 0; decide, ?_⟩
          have := h.hm.sl b g hb g1 g2
          show _ < (now : Int)
          omega
    · refine hidle _ rfl (.inl c2) hL hT (fun _ => ?_) (fun e => by omega)
      rcases h.hm.ow.doom hb with k | ⟨k1, k2, g, k3, k4⟩
      · exact .inl k
      · refine .inr ⟨k1, k2, g, ?_, k4⟩
        revert k3
        cases (A.getD 0 .no).m with
        | no => intro e; cases e
        | push _ => intro e; cases e
        | pop _ => intro e; injection e with e; rw [e]
        | steal _ => intro e; cases e
    · refine hidle _ rfl (.inr c4) hL hT (fun e => by omega) (fun _ => ?_)
      obtain ⟨o, ho, r1, r2, r3⟩ := h.hl.ab a f ha h0 (by omega) hv
      refine ⟨o, ho, r1, r2, r3, ?_⟩
      have := h.gv.fr o ho
      exact this.2.2.1
end
end Go.Proofs.YtjehiekmlbeaeaaGreat

namespace Go.Proofs.YtjehiekmlbeaeaaGreat
open Go Go.RowKit
set_option linter.unusedSimpArgs false
set_option linter.unusedVariables false

/-- A push of v that was done; an entry v that was taken. -/
def isIn (v : Int) (o : OpR) : Bool := o.k == 0 && o.c == 0 && o.v == v
def isOut (v : Int) (o : OpR) : Bool := o.k != 0 && o.c == 1 && o.v == v
abbrev Formed (o : OpR) : Prop := (o.k = 0 ∧ (o.c = 0 ∨ o.c = 3)) ∨ (o.k = 1 ∧ (o.c = 1 ∨ o.c = 2)) ∨ (o.k = 2 ∧ (o.c = 1 ∨ o.c = 2 ∨ o.c = 4))
theorem appO_count {cap : Int} {o : OpR} {l l' : List Int} (v : Int) (hf : Formed o) (h : appO cap o l = some l') : (if isOut v o then 1 else 0) + l'.count v = (if isIn v o then 1 else 0) + l.count v := by
  unfold appO at h
  rcases hf with ⟨k, c | c⟩ | ⟨k, c | c⟩ | ⟨k, c | c | c⟩
  · rw [if_pos c] at h
    split at h
    · injection h with h
      subst h
      have e1 : isOut v o = false := by simp [isOut, k]
      rw [e1, List.count_append]
      by_cases e : o.v = v
      · have e2 : isIn v o = true := by simp [isIn, k, c, e]
        rw [e2, e]
        simp
        omega
      · have e2 : isIn v o = false := by simp [isIn, k, c, e]
        rw [e2]
        simp [e]
    · cases h
  · rw [if_neg (by omega), if_pos c] at h
    split at h
    · injection h with h
      subst h
      simp [isIn, isOut, k, c]
    · cases h
  · rw [if_neg (by omega), if_neg (by omega), if_neg (by omega), if_neg (by omega)] at h
    split at h
    · cases h
    · rename_i hl
      try rw [if_pos k] at h
      split at h
      · rename_i hv
        injection h with h
        have hne : l ≠ [] := fun e => by subst e; simp at hl
        have hlast : l.getLastD 0 = l.getLast hne := by
          cases l with
          | nil => exact absurd rfl hne
          | cons a l => simp [List.getLastD_eq_getLast?, List.getLast?_eq_some_getLast (show a :: l ≠ [] by simp)]
        have hd : l = l' ++ [o.v] := by
          rw [← h, ← hv, hlast, List.dropLast_concat_getLast]
        have e2 : isIn v o = false := by simp [isIn, k]
        rw [e2, hd, List.count_append]
        by_cases e : o.v = v
        · have e1 : isOut v o = true := by simp [isOut, k, c, e]
          rw [e1, e]
          simp
          omega
        · have e1 : isOut v o = false := by simp [isOut, k, c, e]
          rw [e1]
          simp [e]
      · cases h
  · rw [if_neg (by omega), if_neg (by omega), if_pos c] at h
    split at h
    · injection h with h
      subst h
      simp [isIn, isOut, k, c]
    · cases h
  · rw [if_neg (by omega), if_neg (by omega), if_neg (by omega), if_neg (by omega)] at h
    split at h
    · cases h
    · rename_i hl
      try rw [if_neg (by omega)] at h
      split at h
      · rename_i hv
        injection h with h
        have e2 : isIn v o = false := by simp [isIn, k]
        cases l with
        | nil => simp at hl
        | cons a l =>
          replace hv : a = o.v := hv
          replace h : l = l' := h
          subst h
          rw [e2, hv, List.count_cons]
          by_cases e : o.v = v
          · have e1 : isOut v o = true := by simp [isOut, k, c, e]
            rw [e1, e]
            simp
            omega
          · have e1 : isOut v o = false := by simp [isOut, k, c, e]
            rw [e1]
            simp [e]
      · cases h
  · rw [if_neg (by omega), if_neg (by omega), if_pos c] at h
    split at h
    · injection h with h
      subst h
      simp [isIn, isOut, k, c]
    · cases h
  · rw [if_neg (by omega), if_neg (by omega), if_neg (by omega), if_pos c] at h
    injection h with h
    subst h
    simp [isIn, isOut, k, c]
theorem runL_count {cap : Int} {A : List OpR} {l l' : List Int} (v : Int) (hf : ∀ o, o ∈ A → Formed o) (h : runL cap A l = some l') : A.countP (isOut v) + l'.count v = A.countP (isIn v) + l.count v := by
  induction A generalizing l with
  | nil =>
    injection h with h
    subst h
    simp
  | cons o A ih =>
    replace h : (appO cap o l).bind (runL cap A) = some l' := h
    cases ha : appO cap o l with
    | none => rw [ha] at h; cases h
    | some m =>
      rw [ha] at h
      have h1 := ih (fun x hx => hf x (List.mem_cons_of_mem _ hx)) h
      have h2 := appO_count v (hf o (List.mem_cons_self ..)) ha
      rw [List.countP_cons, List.countP_cons]
      omega

section
variable {n t0 now : Nat} {s : St} {T : Nat} {L : List Int} {cl : Option Int} {A : List AcT} {out O1 O2 : List OpR}
theorem HI.first (hs : CL s n t0 t0 []) (hb : s.old 1 = (t0 : Int)) (k : Nat) : HI n t0 0 s t0 [] none (List.replicate k .no) [] [] [] := by
  have e : ∀ a, (List.replicate k AcT.no).getD a .no = .no := fun a => getD_rep ..
  refine ⟨⟨hs, by rw [e]; exact ⟨by rw [hb]; simp, rfl⟩, fun f => (by rw [e]; exact fun e => by cases e), fun a _ => .inl (by rw [e]), fun a k => absurd (by rw [e]) k, fun a f _ k => (by rw [e] at k; cases k), fun f k => (by rw [e] at k; cases k), by simp, by omega⟩,
    ⟨rfl, fun o ho => by simp at ho, fun e => absurd rfl e, List.Pairwise.nil, fun o ho => by simp at ho, fun o ho => by simp at ho⟩, ⟨fun o ho => by simp at ho, List.Perm.refl _, fun o ho => by simp at ho⟩,
    ⟨fun e => absurd rfl e, fun o ho => by simp at ho, fun a f _ k => by rw [e] at k; cases k⟩⟩
/-- The owner has no machine: everything that was done can be put in order. -/
theorem HI.last (h : HI n t0 now s T L cl A out O1 O2) (h0 : (A.getD 0 .no).m = .no) : LinP n out ∧ (∀ o, o ∈ out → Formed o ∧ 0 ≤ o.m ∧ 0 ≤ o.a ∧ o.a ≤ o.b) ∧ (∀ o, o ∈ out → o.c = 4 → o.k = 2 ∧ Rival out o) ∧ (∀ v, out.countP (isOut v) ≤ out.countP (isIn v)) := by
  obtain rfl : O2 = [] := h.nopop fun f e => by rw [h0] at e; cases e
  have hcl : cl = none := by
    have := h.hm.ow
    rw [h0] at this
    exact this.2
  subst hcl
  have hp := h.go.pm
  replace hp : (O1 ++ []).Perm out := hp
  have hrt := h.gv.rt
  rw [List.append_nil] at hp hrt
  have hf : ∀ o, o ∈ O1 → Formed o := fun o ho => h.gv.fm o (List.mem_append_left _ ho)
  refine ⟨⟨O1, hp, hrt, _, h.gv.va⟩, fun o ho => ?_, fun o ho hc => ?_, fun v => ?_⟩
  · have ho' := hp.symm.subset ho
    have := h.gv.fr o (List.mem_append_left _ ho')
    exact ⟨hf o ho', by omega⟩
  · obtain ⟨h1, h2⟩ := h.go.ad o ho hc
    exact ⟨h1, h2.mono fun x hx => hp.subset (by simpa using hx)⟩
  · have := runL_count v hf h.gv.va
    rw [hp.countP_eq, hp.countP_eq] at this
    simp at this
    omega
end

/-- Whether operations can be put in order behind the list l. -/
def LinFrom (cap : Int) (ops : List OpR) (l : List Int) : Prop := ∃ ord, ord.Perm ops ∧ ord.Pairwise RT ∧ ∃ l', runL cap ord l = some l'
theorem LinFrom.nil (cap : Int) (l : List Int) : LinFrom cap [] l := ⟨[], List.Perm.refl _, List.Pairwise.nil, l, rfl⟩
theorem LinFrom.perm {cap : Int} {ops ops' : List OpR} {l : List Int} (h : LinFrom cap ops l) (hp : ops.Perm ops') : LinFrom cap ops' l := by
  obtain ⟨ord, h1, h2⟩ := h
  exact ⟨ord, h1.trans hp, h2⟩
/-- The first of them. -/
theorem LinFrom.cons {cap : Int} {o : OpR} {ops : List OpR} {l l' : List Int} (hr : ∀ x, x ∈ ops → RT o x) (ha : appO cap o l = some l') (h : LinFrom cap ops l') : LinFrom cap (o :: ops) l := by
  obtain ⟨ord, h1, h2, l'', h3⟩ := h
  refine ⟨o :: ord, h1.cons o, List.pairwise_cons.2 ⟨fun x hx => hr x (h1.subset hx), h2⟩, l'', ?_⟩
  show (appO cap o l).bind (runL cap ord) = _
  rw [ha]
  exact h3
theorem LinFrom.split {cap : Int} {ops : List OpR} {l : List Int} (hne : ops ≠ []) (h : LinFrom cap ops l) : ∃ o ops' l', ops.Perm (o :: ops') ∧ (∀ x, x ∈ ops' → RT o x) ∧ appO cap o l = some l' ∧ LinFrom cap ops' l' := by
  obtain ⟨ord, h1, h2, l'', h3⟩ := h
  cases ord with
  | nil => exact absurd h1.symm.eq_nil hne
  | cons o ord =>
    replace h3 : (appO cap o l).bind (runL cap ord) = some l'' := h3
    cases ha : appO cap o l with
    | none => rw [ha] at h3; cases h3
    | some l' =>
      rw [ha] at h3
      obtain ⟨k1, k2⟩ := List.pairwise_cons.1 h2
      exact ⟨o, ord, l', h1.symm, k1, ha, ord, List.Perm.refl _, k2, l'', h3⟩
theorem LinP_from {cap : Int} {ops : List OpR} : LinP cap ops ↔ LinFrom cap ops [] := Iff.rfl
end Go.Proofs.YtjehiekmlbeaeaaGreat

namespace Go.Proofs.YtjehiekmlbeaeaaGreat
open Go Go.RowKit
set_option linter.unusedSimpArgs false
set_option linter.unusedVariables false

/-- An act: its kind, its value. -/
structure ActR where
  k : Int
  v : Int
/-- Whether the player i can perform it. -/
def canR (i : Nat) (a : ActR) : Bool := if i = 0 then a.k == 0 || a.k == 1 else a.k == 2
/-- A player: its acts that are left, its machine. -/
structure Plr where
  acts : List ActR
  x : AcT
abbrev Plr.no : Plr := ⟨[], .no⟩
def Mach.idle : Mach → Bool
  | .no => true
  | _ => false
def Mach.kind : Mach → Int
  | .push _ => 0
  | .pop _ => 1
  | _ => 2
theorem Mach.idle_iff {m : Mach} : m.idle = true ↔ m = .no := by cases m <;> simp [Mach.idle]
theorem Mach.idle_not {m : Mach} (h : m.idle = false) : m ≠ .no := fun e => by rw [e] at h; cases h
def Plr.busy (p : Plr) : Bool := !p.x.m.idle || decide (0 < p.acts.length)
/-- A frame at line 1. -/
abbrev fraP (kd C a : Int) : Fra := ⟨kd, 1, 0, 1, 2, C, a, 0, 0, 0, 0, 0, 0, 0, 0, 0, 0, .slice none 0 0⟩
/-- The machine of an act. -/
def actM (C : Int) (a : ActR) : Mach := if a.k = 0 then .push (fraP 0 C a.v) else if a.k = 1 then .pop (fraP 1 C 0) else .steal (fraP 2 C 0)
theorem actM_live (C : Int) (a : ActR) : (actM C a).idle = false := by
  unfold actM
  split
  · rfl
  · split <;> rfl
/-- What the machine of an act pushes. -/
def actV (a : ActR) : Int := if a.k = 0 then a.v else 0
/-- A player begins its next act, if it rests and has one. -/
def begP (C : Int) (now : Nat) (p : Plr) : Plr :=
  if p.x.m.idle = true then
    match p.acts with
    | [] => p
    | a :: r => ⟨r, ⟨actM C a, now, actV a⟩⟩
  else p
/-- All: the memory, the players, the number of the next pick, what is done. -/
structure PlS where
  s : St
  P : List Plr
  now : Nat
  out : List OpR
/-- The record of what is done. -/
def recP (i : Nat) (x : AcT) (now : Nat) (r : Res) : OpR := ⟨x.m.kind, i, x.sn, now, r.cd, if x.m.kind = 0 then x.vl else r.vl⟩
/-- A step of player i, which is p. -/
def stpP (i : Nat) (p : Plr) (S : PlS) : PlS :=
  if (stepM S.s p.x.m).2.2.dn = true then ⟨(stepM S.s p.x.m).1, S.P.set i ⟨p.acts, ⟨.no, p.x.sn, p.x.vl⟩⟩, S.now + 1, S.out ++ [recP i p.x S.now (stepM S.s p.x.m).2.2]⟩
  else ⟨(stepM S.s p.x.m).1, S.P.set i ⟨p.acts, ⟨(stepM S.s p.x.m).2.1, p.x.sn, p.x.vl⟩⟩, S.now + 1, S.out⟩
/-- A pick of player i. -/
def pickP (C : Int) (i : Nat) (S : PlS) : PlS :=
  if (begP C S.now (S.P.getD i .no)).x.m.idle = true then { S with now := S.now + 1 }
  else stpP i (begP C S.now (S.P.getD i .no)) S
/-- Picks, numbers modulo K. -/
def picksP (C : Int) (K : Nat) (l : List Int) (S : PlS) : PlS := l.foldl (fun S p => pickP C (p.emod K).toNat S) S
/-- From the player i on, each goes on until nothing is left. -/
inductive Ends (C : Int) : Nat → PlS → List OpR → Prop
  | over {i : Nat} {S : PlS} : S.P.length ≤ i → Ends C i S S.out
  | rest {i : Nat} {S : PlS} {r : List OpR} : i < S.P.length → (S.P.getD i .no).busy = false → Ends C (i + 1) S r → Ends C i S r
  | step {i : Nat} {S : PlS} {r : List OpR} : i < S.P.length → (S.P.getD i .no).busy = true → Ends C i (pickP C i S) r → Ends C i S r
theorem Ends.same {C : Int} {i : Nat} {S : PlS} {r r' : List OpR} (h : Ends C i S r) (h' : Ends C i S r') : r = r' := by
  induction h with
  | over h1 =>
    cases h' with
    | over _ => rfl
    | rest h2 _ _ => omega
    | step h2 _ _ => omega
  | rest h1 h2 _ ih =>
    cases h' with
    | over _ => omega
    | rest _ _ h5 => exact ih h5
    | step _ h4 _ => rw [h2] at h4; cases h4
  | step h1 h2 _ ih =>
    cases h' with
    | over _ => omega
    | rest _ h4 _ => rw [h2] at h4; cases h4
    | step _ _ h5 => exact ih h5
/-- The players of a plan. -/
def plrs (plan : List (List ActR)) : List Plr := (List.range plan.length).map fun i => ⟨(plan.getD i []).filter (canR i), .no⟩
/-- The first state: s is the memory. -/
def PlS.first (s : St) (plan : List (List ActR)) : PlS := ⟨s, plrs plan, 0, []⟩
/-- What Play gives. -/
def Plays (s : St) (C : Int) (plan : List (List ActR)) (picks : List Int) (r : List OpR) : Prop :=
  if plan = [] then r = [] else Ends C 0 (picksP C plan.length picks (PlS.first s plan)) r
theorem Plays.same {s : St} {C : Int} {plan : List (List ActR)} {picks : List Int} {r r' : List OpR} (h : Plays s C plan picks r) (h' : Plays s C plan picks r') : r = r' := by
  unfold Plays at h h'
  split at h
  · rw [if_pos ‹_›] at h'
    rw [h, h']
  · rw [if_neg ‹_›] at h'
    exact h.same h'

/-- How many steps are left of a player, at most. -/
def Mach.todo : Mach → Nat
  | .no => 0
  | .push f => (10 - f.ln).toNat
  | .pop f => (10 - f.ln).toNat
  | .steal f => (10 - f.ln).toNat
def Plr.todo (p : Plr) : Nat := 9 * p.acts.length + p.x.m.todo
/-- Whether all is well with a player. -/
structure PlOk (i : Nat) (p : Plr) : Prop where
  can : ∀ a, a ∈ p.acts → canR i a = true ∧ -9223372036854775808 ≤ a.v ∧ a.v ≤ 9223372036854775807
  ln : p.x.m = .no ∨ (1 ≤ p.x.m.line ∧ p.x.m.line ≤ 9)
  vl : -9223372036854775808 ≤ p.x.vl ∧ p.x.vl ≤ 9223372036854775807
theorem Mach.todo_line {m : Mach} (h : m = .no ∨ (1 ≤ m.line ∧ m.line ≤ 9)) : (m = .no ∧ m.todo = 0) ∨ ((m.todo : Int) = 10 - m.line ∧ 1 ≤ m.line ∧ m.line ≤ 9) := by
  cases m with
  | no => exact .inl ⟨rfl, rfl⟩
  | push f =>
    rcases h with h | ⟨h1, h2⟩
    · cases h
    · refine .inr ⟨?_, h1, h2⟩
      replace h2 : f.ln ≤ 9 := h2
      show (((10 - f.ln).toNat : Nat) : Int) = 10 - f.ln
      omega
  | pop f =>
    rcases h with h | ⟨h1, h2⟩
    · cases h
    · refine .inr ⟨?_, h1, h2⟩
      replace h2 : f.ln ≤ 9 := h2
      show (((10 - f.ln).toNat : Nat) : Int) = 10 - f.ln
      omega
  | steal f =>
    rcases h with h | ⟨h1, h2⟩
    · cases h
    · refine .inr ⟨?_, h1, h2⟩
      replace h2 : f.ln ≤ 9 := h2
      show (((10 - f.ln).toNat : Nat) : Int) = 10 - f.ln
      omega
theorem actM_todo (C : Int) (a : ActR) : (actM C a).todo = 9 ∧ (actM C a).line = 1 := by
  unfold actM
  split
  · exact ⟨rfl, rfl⟩
  · split <;> exact ⟨rfl, rfl⟩
section
variable {C : Int} {now i : Nat} {p : Plr}
theorem begP_rest (h : p.x.m.idle = true) (ha : p.acts = []) : begP C now p = p := by
  unfold begP
  rw [if_pos h, ha]
theorem begP_next {a : ActR} {r : List ActR} (h : p.x.m.idle = true) (ha : p.acts = a :: r) : begP C now p = ⟨r, ⟨actM C a, now, actV a⟩⟩ := by
  unfold begP
  rw [if_pos h, ha]
theorem begP_on (h : p.x.m.idle = false) : begP C now p = p := by
  unfold begP
  rw [if_neg (by rw [h]; decide)]
theorem begP_ok (h : PlOk i p) : PlOk i (begP C now p) ∧ (begP C now p).todo = p.todo ∧ (p.busy = true → (begP C now p).x.m.idle = false) ∧ (p.busy = false → begP C now p = p ∧ p.x.m.idle = true) := by
  cases hi : p.x.m.idle with
  | false =>
    rw [begP_on hi]
    exact ⟨h, rfl, fun _ => hi, fun hb => by unfold Plr.busy at hb; rw [hi] at hb; cases hb⟩
  | true =>
    have hm := Mach.idle_iff.1 hi
    cases ha : p.acts with
    | nil =>
      rw [begP_rest hi ha]
      exact ⟨h, rfl, fun hb => by unfold Plr.busy at hb; rw [hi, ha] at hb; simp at hb, fun _ => ⟨rfl, rfl⟩⟩
    | cons a r =>
      rw [begP_next hi ha]
      have hc := h.can a (by rw [ha]; exact List.mem_cons_self ..)
      refine ⟨⟨fun b hb => h.can b (by rw [ha]; exact List.mem_cons_of_mem _ hb), .inr (by show 1 ≤ (actM C a).line ∧ (actM C a).line ≤ 9; rw [(actM_todo C a).2]; omega), ?_⟩, ?_, fun _ => actM_live C a, fun hb => by unfold Plr.busy at hb; rw [hi, ha] at hb; cases hb⟩
      · show -9223372036854775808 ≤ actV a ∧ actV a ≤ 9223372036854775807
        unfold actV
        split
        · exact hc.2
        · omega
      · show 9 * r.length + (actM C a).todo = 9 * p.acts.length + p.x.m.todo
        rw [(actM_todo C a).1, hm, ha]
        show 9 * r.length + 9 = 9 * (r.length + 1) + 0
        omega
theorem stepM_line {s : St} {m : Mach} (h : 1 ≤ m.line) (hd : (stepM s m).2.2.dn = false) : m.line + 1 ≤ (stepM s m).2.1.line ∧ (m = .no → False) := by
  cases m with
  | no => cases hd
  | push f => exact ⟨push_line h hd, fun e => by cases e⟩
  | pop f => exact ⟨pop_line h hd, fun e => by cases e⟩
  | steal f => exact ⟨steal_line h hd, fun e => by cases e⟩
end
end Go.Proofs.YtjehiekmlbeaeaaGreat
