/-
  Package table: the step of Claim. 
-/
import Derived.Test.YtgipddeldddbnaaGreatTbC
namespace Go.Proofs.YtgipddeldddbnaaGreat
open Go Go.RowKit Go.Shelf
set_option linter.unusedSimpArgs false
set_option linter.unusedVariables false

/-- An environment with its events and its records. -/
structure TW (B : Nat) (w : World) (p m k g cap : Nat) (s : St) (t d : Int) (hd : List Value) (rv ev : Value) (rs : List Rec) (es : List Ev) : Prop where
  e : PE w p m k g cap s t d hd rv ev
  v : OwnE w B ev es
  r : OwnR w B rv rs
section
variable {w w' : World} {p m k g cap : Nat} {s s' : St} {t d : Int} {hd : List Value} {rv ev ev' : Value} {q B : Nat} {f : Fra} {c : Cfg} {es es' : List Ev} {rs rs' : List Rec} {ty : TypeId} {post : List Value} {cd vl : Int}
theorem OwnE.typ (h : OwnE w B ev es) : ∀ j, j ∈ ev.ownBlock.toList → ∃ cs, Blk w j 48 cs := by
  intro j hj
  rcases h.2 with ⟨rfl, _⟩ | ⟨g2, cap2, cur, rfl, _, hg, _⟩
  · simp [Value.ownBlock] at hj
  · simp [Value.ownBlock] at hj
    subst hj
    exact ⟨cur, hg⟩
theorem OwnR.typ (h : OwnR w B rv rs) : ∀ j, j ∈ rv.ownBlock.toList → ∃ cs, Blk w j 51 cs := by
  obtain ⟨ks, _, h2, _⟩ := h
  intro j hj
  rcases h2.2 with ⟨rfl, _⟩ | ⟨g2, cap2, cur, rfl, _, hg, _⟩
  · simp [Value.ownBlock] at hj
  · simp [Value.ownBlock] at hj
    subst hj
    exact ⟨cur, hg⟩
theorem PE.mg (h : PE w p m k g cap s t d hd rv ev) : ∀ j, j ∈ [m, g] → ∃ t cs, Blk w j t cs ∧ t ≠ 48 ∧ t ≠ 51 ∧ t ≠ 3 := by
  obtain ⟨cur, hgb, _⟩ := h.mem.row.blk
  intro j hj
  simp only [List.mem_cons, List.not_mem_nil, or_false] at hj
  rcases hj with rfl | rfl
  · exact ⟨_, _, h.mem.blk, by decide, by decide, by decide⟩
  · exact ⟨_, _, hgb, by decide, by decide, by decide⟩
theorem OwnE.accT (h : OwnE w B ev es) {S : List Nat} (hf : Fr S w w') (hS : ∀ j, j ∈ S → ∃ t cs, Blk w j t cs ∧ t ≠ 48) : OwnE w' B ev es := h.accs hf hS
theorem TW.acc (h : TW B w p m k g cap s t d hd rv ev rs es) (hm : Mem w' m g cap s') (hf : Fr [m, g] w w') : TW B w' p m k g cap s' t d hd rv ev rs es :=
  ⟨h.e.acc hm hf, h.v.accs hf (fun j hj => by obtain ⟨t, cs, a, b, _⟩ := h.e.mg j hj; exact ⟨t, cs, a, b⟩), h.r.accs hf (fun j hj => by obtain ⟨t, cs, a, _, b⟩ := h.e.mg j hj; exact ⟨t, cs, a, b⟩)⟩
theorem TW.below (h : TW B w p m k g cap s t d hd rv ev rs es) (hb : Below w.heap.size w w') : TW B w' p m k g cap s t d hd rv ev rs es :=
  ⟨h.e.below hb, h.v.below hb, h.r.below hb⟩
theorem TW.own (h : TW B w p m k g cap s t d hd rv ev rs es) (hb : LB w q ty post f cd vl) (hf : Fr [q] w w') (h1 : ty ≠ 48) (h2 : ty ≠ 51) (h3 : ty ≠ 3) : TW B w' p m k g cap s t d hd rv ev rs es :=
  ⟨h.e.lown hb hf, h.v.accs hf (fun j hj => by simp at hj; subst hj; exact ⟨_, _, hb.blk, h1⟩), h.r.accs hf (fun j hj => by simp at hj; subst hj; exact ⟨_, _, hb.blk, h2, h3⟩)⟩
/-- Records have been written. -/
theorem TW.recs (h : TW B w p m k g cap s t d hd rv ev rs es) (hp : PE w' p m k g cap s t d hd rv ev) (hr : OwnR w' B rv rs') (hf : Fr rv.ownBlock.toList w w') : TW B w' p m k g cap s t d hd rv ev rs' es :=
  ⟨hp, h.v.accs hf (fun j hj => by obtain ⟨cs, a⟩ := h.r.typ j hj; exact ⟨_, cs, a, by decide⟩), hr⟩
/-- An event has been emitted. -/
theorem TW.emit (h : TW B w p m k g cap s t d hd rv ev rs es) (hp : PE w' p m k g cap s t d hd rv ev') (hv : OwnE w' B ev' es') (hf : Fr (p :: ev.ownBlock.toList) w w') : TW B w' p m k g cap s t d hd rv ev' rs es' :=
  ⟨hp, hv, h.r.accs hf (fun j hj => by
    simp only [List.mem_cons] at hj
    rcases hj with rfl | hj
    · exact ⟨_, _, h.e.blk, by decide, by decide⟩
    · obtain ⟨cs, a⟩ := h.v.typ j hj
      exact ⟨_, cs, a, by decide, by decide⟩)⟩
theorem LB.emit (hb : LB w q ty post f cd vl) (h : TW B w p m k g cap s t d hd rv ev rs es) (hf : Fr (p :: ev.ownBlock.toList) w w') (h1 : ty ≠ 48) : LB w' q ty post f cd vl :=
  hb.fr hf (by
    simp only [List.mem_cons, not_or]
    refine ⟨(hb.ne h.e).1, fun hj => ?_⟩
    obtain ⟨cs, a⟩ := h.v.typ q hj
    exact hb.blk.apart a h1 rfl)
/-- What a step of Claim gives. -/
def CStep (B : Nat) (w : World) (p m k g cap : Nat) (s' : St) (t d : Int) (hd : List Value) (rv ev : Value) (rs' : List Rec) (es' : List Ev) (q : Nat) (f : Fra) (r : Res) (e : Ending) (w' : World) : Prop :=
  ∃ ev', e = .returned (.bool r.dn) ∧ TW B w' p m k g cap s' t d hd rv ev' rs' es' ∧ (∀ x, ev'.ownBlock = some x → ev.ownBlock = some x ∨ w.heap.size ≤ x) ∧ LB w' q 76 (cpost f) { f with ln := 0 } r.cd r.vl ∧ Fr (p :: m :: g :: q :: (rv.ownBlock.toList ++ ev.ownBlock.toList)) w w'

set_option maxRecDepth 100000 in
set_option maxHeartbeats 2000000 in
theorem claimer_miss (hp : TW B w p m k g cap s t d hd rv ev rs es) (hl : LayHd hd c) (hin : CfgIn c) (h : LB w q 76 (cpost f) f 0 0) (hln : f.ln = 1) (hn : es.length ≤ 900000) (hB : B ≤ w.heap.size) (hh : s.hit (rTask c f.fb 0) 1 = false) :
    Calls Tryz.prog 83 #[.pointer (some ⟨q, 0, none⟩), .pointer (some ⟨p, 0, none⟩)] w (CStep B w p m k g cap (s.go 3 (rTask c f.fb 0) (fun x => if x = 1 then 2 else x)) t d hd rv ev (rs) (es ++ [⟨15, f.fa, f.fb, 0, 0⟩]) q f ⟨true, 4, 0⟩) := by
  have T0 := Lib.hid hp
  have P0 := Lib.hid hp.e
  have B0 := Lib.hid h
  have F0 := Lib.hid (Fr.refl (p :: m :: g :: q :: (rv.ownBlock.toList ++ ev.ownBlock.toList)) w)
  have HL := Lib.hid hl
  have HN := Lib.hid (And.intro hn hB)
  have hc0 := lline_any B0.out
  rw [hln] at hc0
  have HC0 := Lib.hid hc0
  clear hp h hl hc0 hn hB
  go_enter Tryz.func83, Tryz.ntmps83
  go_wp2_with fail
  (with_reducible refine HC0.out.mono ?_)
  rintro e wx ⟨rfl, rfl⟩
  clear HC0
  go_upto_region 2 with fail
  have HH := Lib.hid hh
  clear hh
  have T1 := Lib.hid (show TW B w.drew p m k g cap s t d hd rv ev rs es from T0.out.below (below_drewN w 1))
  have B1 := Lib.hid B0.out.drew
  have F1 := Lib.hid F0.out.drew
  obtain ⟨d0, d1, d2, d3, d4, d5, d6, d7, d8⟩ := T1.out.e.layS HL.out
  have dx0 : w.drew.cell? ⟨p, 20, none⟩ = some (.pointer (some ⟨m, 0, none⟩)) := T1.out.e.at20
  have dx1 : w.drew.cell? ⟨q, 3, none⟩ = some (.int .i64 f.fb) := by rw [B1.out.blk.at_]; rfl
  go_region_held3 (fun w' => w'.cell? ⟨p, 11, none⟩ = some (.int .i64 4) ∧ w'.cell? ⟨p, 12, none⟩ = some (.int .i64 (4 + c.he)) ∧ w'.cell? ⟨p, 13, none⟩ = some (.int .i64 (4 + c.he + c.cl)) ∧ w'.cell? ⟨p, 14, none⟩ = some (.int .i64 (4 + c.he + c.cl + c.wo)) ∧ w'.cell? ⟨p, 15, none⟩ = some (.int .i64 (rDeques c)) ∧ w'.cell? ⟨p, 16, none⟩ = some (.int .i64 (rDeques c + rAll c)) ∧ w'.cell? ⟨p, 17, none⟩ = some (.int .i64 (rCells c)) ∧ w'.cell? ⟨p, 18, none⟩ = some (.int .i64 c.le) ∧ w'.cell? ⟨p, 19, none⟩ = some (.int .i64 c.de) ∧ w'.cell? ⟨p, 20, none⟩ = some (.pointer (some ⟨m, 0, none⟩)) ∧ w'.cell? ⟨q, 3, none⟩ = some (.int .i64 f.fb)) ((first | exact ⟨y0, y1, y2, y3, y4, y5, y6, y7, y8, yx0, yx1⟩ | exact ⟨x0, x1, x2, x3, x4, x5, x6, x7, x8, xx0, xx1⟩ | exact ⟨d0, d1, d2, d3, d4, d5, d6, d7, d8, dx0, dx1⟩ | go_keep))
    (first
     | (go_at_call 75
        refine (lstate_any (c := c) hin f.fb).mono ?_
        rintro e u2 ⟨rfl, hb⟩
        have T2 := Lib.hid (T1.out.below hb)
        have B2 := Lib.hid (B1.out.below hb)
        have F2 := Lib.hid (F1.out.trans (Fr.old hb))
        obtain ⟨x0, x1, x2, x3, x4, x5, x6, x7, x8⟩ := T2.out.e.layS HL.out
        have xx0 : u2.cell? ⟨p, 20, none⟩ = some (.pointer (some ⟨m, 0, none⟩)) := T2.out.e.at20
        have xx1 : u2.cell? ⟨q, 3, none⟩ = some (.int .i64 f.fb) := by rw [B2.out.blk.at_]; rfl
        clear hb)
     | (go_at_call 84
        refine (cas_any T2.out.e.mem _ _ _).mono ?_
        rintro e u3 ⟨rfl, hm, hf⟩
        have T3 := Lib.hid (T2.out.acc hm hf)
        have B3 := Lib.hid (B2.out.acc T2.out.e hf)
        have F3 := Lib.hid (F2.out.trans (hf.mono (by simp)))
        obtain ⟨y0, y1, y2, y3, y4, y5, y6, y7, y8⟩ := T3.out.e.layS HL.out
        have yx0 : u3.cell? ⟨p, 20, none⟩ = some (.pointer (some ⟨m, 0, none⟩)) := T3.out.e.at20
        have yx1 : u3.cell? ⟨q, 3, none⟩ = some (.int .i64 f.fb) := by rw [B3.out.blk.at_]; rfl
        clear hm hf))
  clear d0 d1 d2 d3 d4 d5 d6 d7 d8 dx0 dx1 x0 x1 x2 x3 x4 x5 x6 x7 x8 xx0 xx1 y0 y1 y2 y3 y4 y5 y6 y7 y8 yx0 yx1 T0 B0 F0 T1 B1 F1 T2 B2 F2 P0
  rw [HH.out]
  have hw3 : w.heap.size ≤ u3.heap.size := F3.out.size
  have HE := Lib.hid (cemit_any T3.out.e B3.out T3.out.v HN.out.1 (Nat.le_trans HN.out.2 hw3) 15)
  have HW3 := Lib.hid hw3
  clear hw3
  go_wp2_with fail
  (with_reducible refine HE.out.mono ?_)
  rintro e w4 ⟨ev', rfl, hp4, hv4, hat, hf⟩
  have T4 := Lib.hid (T3.out.emit hp4 hv4 hf)
  have B4 := Lib.hid (B3.out.emit T3.out hf (by decide))
  have F4 := Lib.hid (F3.out.trans (hf.mono (fun y hy => by simp only [List.mem_cons, List.mem_append] at hy ⊢; rcases hy with hy | hy; exact .inl hy; exact .inr (.inr (.inr (.inr (.inr hy)))))))
  have HAT := Lib.hid (fun x hx => (hat x hx).imp id (fun h => Nat.le_trans HW3.out h))
  clear hp4 hv4 hat hf HE T3 B3 F3
  go_wp2_with fail
  (with_reducible refine (lend_any B4.out 4 0).mono ?_)
  rintro e w5 ⟨rfl, hb, hf⟩
  have T5 := Lib.hid (T4.out.own B4.out hf (by decide) (by decide) (by decide))
  have B5 := Lib.hid hb
  have F5 := Lib.hid (F4.out.trans (hf.mono (by simp)))
  clear hb hf
  go_wp2
  go_ret
  exact ⟨ev', rfl, T5.out, HAT.out, B5.out, F5.out⟩

set_option maxRecDepth 100000 in
set_option maxHeartbeats 2000000 in
theorem claimer_hit (hp : TW B w p m k g cap s t d hd rv ev rs es) (hl : LayHd hd c) (hin : CfgIn c) (h : LB w q 76 (cpost f) f 0 0) (hln : f.ln = 1) (hn : es.length ≤ 900000) (hB : B ≤ w.heap.size) (h0 : 0 ≤ f.fb) (hlt : f.fb.toNat < rs.length) (hmx : rs.length ≤ 100000) (hh : s.hit (rTask c f.fb 0) 1 = true) :
    Calls Tryz.prog 83 #[.pointer (some ⟨q, 0, none⟩), .pointer (some ⟨p, 0, none⟩)] w (CStep B w p m k g cap (s.go 3 (rTask c f.fb 0) (fun x => if x = 1 then 2 else x)) t d hd rv ev (rs.set f.fb.toNat { rs.getD f.fb.toNat zrec with st := true }) (es ++ [⟨if (rs.getD f.fb.toNat zrec).st = true then 9 else 5, f.fa, f.fb, 0, 0⟩]) q f ⟨true, 1, f.fb⟩) := by
  obtain ⟨rs', hrs⟩ : ∃ r', rs.set f.fb.toNat { rs.getD f.fb.toNat zrec with st := true } = r' := ⟨_, rfl⟩
  obtain ⟨kd, hkd⟩ : ∃ x : Int, (if (rs.getD f.fb.toNat zrec).st = true then (9 : Int) else 5) = x := ⟨_, rfl⟩
  rw [hrs, hkd]
  have HRS := Lib.hid hrs
  have HKD := Lib.hid hkd
  clear hrs hkd
  have T0 := Lib.hid hp
  have P0 := Lib.hid hp.e
  have B0 := Lib.hid h
  have F0 := Lib.hid (Fr.refl (p :: m :: g :: q :: (rv.ownBlock.toList ++ ev.ownBlock.toList)) w)
  have HL := Lib.hid hl
  have HN := Lib.hid (And.intro hn hB)
  have hc0 := lline_any B0.out
  rw [hln] at hc0
  have HC0 := Lib.hid hc0
  clear hp h hl hc0 hn hB
  go_enter Tryz.func83, Tryz.ntmps83
  go_wp2_with fail
  (with_reducible refine HC0.out.mono ?_)
  rintro e wx ⟨rfl, rfl⟩
  clear HC0
  go_upto_region 2 with fail
  have HH := Lib.hid hh
  have H0 := Lib.hid (And.intro h0 (And.intro hlt hmx))
  clear hh h0 hlt hmx
  have T1 := Lib.hid (show TW B w.drew p m k g cap s t d hd rv ev rs es from T0.out.below (below_drewN w 1))
  have B1 := Lib.hid B0.out.drew
  have F1 := Lib.hid F0.out.drew
  obtain ⟨d0, d1, d2, d3, d4, d5, d6, d7, d8⟩ := T1.out.e.layS HL.out
  have dx0 : w.drew.cell? ⟨p, 20, none⟩ = some (.pointer (some ⟨m, 0, none⟩)) := T1.out.e.at20
  have dx1 : w.drew.cell? ⟨q, 3, none⟩ = some (.int .i64 f.fb) := by rw [B1.out.blk.at_]; rfl
  go_region_held3 (fun w' => w'.cell? ⟨p, 11, none⟩ = some (.int .i64 4) ∧ w'.cell? ⟨p, 12, none⟩ = some (.int .i64 (4 + c.he)) ∧ w'.cell? ⟨p, 13, none⟩ = some (.int .i64 (4 + c.he + c.cl)) ∧ w'.cell? ⟨p, 14, none⟩ = some (.int .i64 (4 + c.he + c.cl + c.wo)) ∧ w'.cell? ⟨p, 15, none⟩ = some (.int .i64 (rDeques c)) ∧ w'.cell? ⟨p, 16, none⟩ = some (.int .i64 (rDeques c + rAll c)) ∧ w'.cell? ⟨p, 17, none⟩ = some (.int .i64 (rCells c)) ∧ w'.cell? ⟨p, 18, none⟩ = some (.int .i64 c.le) ∧ w'.cell? ⟨p, 19, none⟩ = some (.int .i64 c.de) ∧ w'.cell? ⟨p, 20, none⟩ = some (.pointer (some ⟨m, 0, none⟩)) ∧ w'.cell? ⟨q, 3, none⟩ = some (.int .i64 f.fb)) ((first | exact ⟨y0, y1, y2, y3, y4, y5, y6, y7, y8, yx0, yx1⟩ | exact ⟨x0, x1, x2, x3, x4, x5, x6, x7, x8, xx0, xx1⟩ | exact ⟨d0, d1, d2, d3, d4, d5, d6, d7, d8, dx0, dx1⟩ | go_keep))
    (first
     | (go_at_call 75
        refine (lstate_any (c := c) hin f.fb).mono ?_
        rintro e u2 ⟨rfl, hb⟩
        have T2 := Lib.hid (T1.out.below hb)
        have B2 := Lib.hid (B1.out.below hb)
        have F2 := Lib.hid (F1.out.trans (Fr.old hb))
        obtain ⟨x0, x1, x2, x3, x4, x5, x6, x7, x8⟩ := T2.out.e.layS HL.out
        have xx0 : u2.cell? ⟨p, 20, none⟩ = some (.pointer (some ⟨m, 0, none⟩)) := T2.out.e.at20
        have xx1 : u2.cell? ⟨q, 3, none⟩ = some (.int .i64 f.fb) := by rw [B2.out.blk.at_]; rfl
        clear hb)
     | (go_at_call 84
        refine (cas_any T2.out.e.mem _ _ _).mono ?_
        rintro e u3 ⟨rfl, hm, hf⟩
        have T3 := Lib.hid (T2.out.acc hm hf)
        have B3 := Lib.hid (B2.out.acc T2.out.e hf)
        have F3 := Lib.hid (F2.out.trans (hf.mono (by simp)))
        obtain ⟨y0, y1, y2, y3, y4, y5, y6, y7, y8⟩ := T3.out.e.layS HL.out
        have yx0 : u3.cell? ⟨p, 20, none⟩ = some (.pointer (some ⟨m, 0, none⟩)) := T3.out.e.at20
        have yx1 : u3.cell? ⟨q, 3, none⟩ = some (.int .i64 f.fb) := by rw [B3.out.blk.at_]; rfl
        clear hm hf))
  clear d0 d1 d2 d3 d4 d5 d6 d7 d8 dx0 dx1 x0 x1 x2 x3 x4 x5 x6 x7 x8 xx0 xx1 y0 y1 y2 y3 y4 y5 y6 y7 y8 yx0 yx1 T0 B0 F0 T1 B1 F1 T2 B2 F2 P0
  rw [HH.out]
  have hg := begin_any T3.out.e B3.out T3.out.r H0.out.1 H0.out.2.1 H0.out.2.2
  rw [HRS.out, HKD.out] at hg
  have HG := Lib.hid hg
  clear hg
  go_wp2_with fail
  (with_reducible refine HG.out.mono ?_)
  rintro e w3 ⟨rfl, hp3, hr3, hb3, hf3⟩
  have TA := Lib.hid (T3.out.recs hp3 hr3 hf3)
  have BA := Lib.hid hb3
  have FA := Lib.hid (F3.out.trans (hf3.mono (fun y hy => by simp only [List.mem_cons, List.mem_append]; exact .inr (.inr (.inr (.inr (.inl hy)))))))
  have hw3 : w.heap.size ≤ w3.heap.size := FA.out.size
  have HE := Lib.hid (cemit_any TA.out.e BA.out TA.out.v HN.out.1 (Nat.le_trans HN.out.2 hw3) kd)
  have HW3 := Lib.hid hw3
  clear hw3 hp3 hr3 hb3 hf3 T3 B3 F3 HG
  go_wp2_with fail
  (with_reducible refine HE.out.mono ?_)
  rintro e w4 ⟨ev', rfl, hp4, hv4, hat, hf⟩
  have T4 := Lib.hid (TA.out.emit hp4 hv4 hf)
  have B4 := Lib.hid (BA.out.emit TA.out hf (by decide))
  have F4 := Lib.hid (FA.out.trans (hf.mono (fun y hy => by simp only [List.mem_cons, List.mem_append] at hy ⊢; rcases hy with hy | hy; exact .inl hy; exact .inr (.inr (.inr (.inr (.inr hy)))))))
  have HAT := Lib.hid (fun x hx => (hat x hx).imp id (fun h => Nat.le_trans HW3.out h))
  clear hp4 hv4 hat hf HE TA BA FA
  go_upto_region 4 with fail
  have T5 := Lib.hid (show TW B w4.drew p m k g cap _ t d hd rv ev' rs' _ from T4.out.below (below_drewN w4 1))
  have B5 := Lib.hid B4.out.drew
  have F5 := Lib.hid F4.out.drew
  have d3 : w4.drew.cell? ⟨q, 3, none⟩ = some (.int .i64 f.fb) := by rw [B5.out.blk.at_]; rfl
  clear T4 B4 F4
  go_still_tail 8, (by kernel_rfl)
  go_wp2_with fail
  (with_reducible refine (lend_any B5.out 1 f.fb).mono ?_)
  rintro e w6 ⟨rfl, hb, hf⟩
  have T6 := Lib.hid (T5.out.own B5.out hf (by decide) (by decide) (by decide))
  have B6 := Lib.hid hb
  have F6 := Lib.hid (F5.out.trans (hf.mono (by simp)))
  clear hb hf
  go_wp2
  go_ret
  exact ⟨ev', rfl, T6.out, HAT.out, B6.out, F6.out⟩
theorem claimer_any (hp : TW B w p m k g cap s t d hd rv ev rs es) (hl : LayHd hd c) (hin : CfgIn c) (h : LB w q 76 (cpost f) f 0 0) (hln : f.ln = 1) (hn : es.length ≤ 900000) (hB : B ≤ w.heap.size) (hrs : (rs.length : Int) = c.ta) :
    Calls Tryz.prog 83 #[.pointer (some ⟨q, 0, none⟩), .pointer (some ⟨p, 0, none⟩)] w (CStep B w p m k g cap (clmS c rs s es f).1 t d hd rv ev (clmS c rs s es f).2.2.1 (clmS c rs s es f).2.1 q f (clmS c rs s es f).2.2.2) := by
  unfold clmS
  cases hh : s.hit (rTask c f.fb 0) 1 with
  | false =>
    simp only [Bool.false_eq_true, if_false]
    exact claimer_miss hp hl hin h hln hn hB hh
  | true =>
    simp only [if_true]
    have ht := isT_iff.1 (hit_isT hh)
    have := hin.ta
    exact claimer_hit hp hl hin h hln hn hB ht.1 (by omega) (by omega) hh
end
end Go.Proofs.YtgipddeldddbnaaGreat
