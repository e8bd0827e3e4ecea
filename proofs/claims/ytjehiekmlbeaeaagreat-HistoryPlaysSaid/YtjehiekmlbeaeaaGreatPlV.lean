/-
  Stage 11: the game of Play in memory: what changes keep.
-/
import Derived.Test.YtjehiekmlbeaeaaGreatPlZ
namespace Go.Proofs.YtjehiekmlbeaeaaGreat
open Go Go.RowKit Go.Shelf
set_option linter.unusedSimpArgs false
set_option linter.unusedVariables false

/-- The row of a player. -/
structure PlC (w : World) (B : Nat) (rw_ : Nat → Value) (i q : Nat) (p : Plr) : Prop where
  ac : AcR w B (rw_ 0) p.acts
  mv : rw_ 1 = mval q p.x.m
  nt : ∀ j, 2 ≤ j → j < 8 → ∃ z : Int, rw_ j = .int .i64 z
  on : p.x.m ≠ .no → rw_ 2 = .int .i64 p.x.m.kind ∧ rw_ 3 = .int .i64 i ∧ rw_ 4 = .int .i64 p.x.sn ∧ rw_ 7 = .int .i64 p.x.vl
/-- The cells of the game. -/
abbrev gmC (p C bp K pc : Nat) (now : Int) (ov : Value) : Array Value := #[.pointer (some ⟨p, 0, none⟩), .int .i64 0, .int .i64 1, .int .i64 2, .int .i64 C, .slice (some ⟨bp, 0, none⟩) K pc, .int .i64 now, ov]
/-- The game. -/
structure GW (w0 w : World) (gb p m k g cap bp K pc C : Nat) (q : Nat → Nat) (row : Nat → Nat → Value) (ov : Value) (S : PlS) : Prop where
  gm : Blk w gb 143 (gmC p C bp K pc S.now ov)
  pe : PE w p m k g cap S.s 0 0 hd0 (.slice none 0 0) (.slice none 0 0)
  n : S.s.N
  pb : PB w bp K row
  out : OwnG w w0.heap.size 80 6 ov (S.out.map opL)
  len : S.P.length = K
  pl : ∀ i, i < K → PlC w w0.heap.size (row i) i (q i) (S.P.getD i .no)
  mo : ∀ i, i < K → MO w (q i) (S.P.getD i .no).x.m
  ap : ∀ i j, i < K → j < K → i ≠ j → (S.P.getD i .no).x.m ≠ .no → (S.P.getD j .no).x.m ≠ .no → q i ≠ q j
  lo : ∀ i, i < K → (S.P.getD i .no).x.m ≠ .no → w0.heap.size ≤ q i
  lb : w0.heap.size ≤ gb ∧ w0.heap.size ≤ p ∧ w0.heap.size ≤ m ∧ w0.heap.size ≤ k ∧ w0.heap.size ≤ g ∧ w0.heap.size ≤ bp
  b : Below w0.heap.size w0 w
section
variable {w0 w w' : World} {gb p m k g cap bp K pc C : Nat} {q : Nat → Nat} {row row' : Nat → Nat → Value} {ov : Value} {S : PlS}
theorem PlC.fr {B i x : Nat} {r : Nat → Value} {P : Plr} {T : List Nat} (h : PlC w B r i x P) (hf : Fr T w w') (hT : ∀ g cur, Blk w g 138 cur → g ∉ T) : PlC w' B r i x P := ⟨h.ac.fr hf hT, h.mv, h.nt, h.on⟩
theorem PlC.other {B i x y : Nat} {r : Nat → Value} {P : Plr} (h : PlC w B r i x P) (e : P.x.m = .no) : PlC w B r i y P := ⟨h.ac, by rw [h.mv, e]; rfl, h.nt, h.on⟩
theorem GW.hg (h : GW w0 w gb p m k g cap bp K pc C q row ov S) : ∃ cs, Blk w g 50 cs := by
  obtain ⟨cur, hb, _⟩ := h.pe.mem.row.blk
  exact ⟨cur, hb⟩
/-- A block of another type is none of the environment's. -/
theorem GW.env (h : GW w0 w gb p m k g cap bp K pc C q row ov S) {b : Nat} {t : TypeId} {cs : Array Value} (hb : Blk w b t cs) (h1 : t ≠ 47) (h2 : t ≠ 133) (h3 : t ≠ 131) (h4 : t ≠ 50) : p ≠ b ∧ m ≠ b ∧ k ≠ b ∧ g ≠ b := by
  obtain ⟨cs2, hg⟩ := h.hg
  exact ⟨(hb.apart h.pe.blk h1).symm, (hb.apart h.pe.mem.blk h2).symm, (hb.apart h.pe.clk h3).symm, (hb.apart hg h4).symm⟩
theorem GW.same (h : GW w0 w gb p m k g cap bp K pc C q row ov S) (hb : Below w.heap.size w w') : GW w0 w' gb p m k g cap bp K pc C q row ov S :=
  ⟨h.gm.below hb, h.pe.below hb, h.n, h.pb.below hb, h.out.below hb, h.len, fun i hi => (h.pl i hi).fr (Fr.old (S := []) hb) (by simp), fun i hi => (h.mo i hi).below hb, h.ap, h.lo, h.lb, h.b.trans (hb.mono h.b.size)⟩
/-- A player has changed. -/
theorem GW.one (h : GW w0 w gb p m k g cap bp K pc C q row ov S) {i x : Nat} {P : Plr} (hi : i < K) (hf : Fr [bp] w w') (hp : PB w' bp K row') (hrow : ∀ b c, b ≠ i → row' b c = row b c) (pl : PlC w' w0.heap.size (row' i) i x P) (mo : MO w' x P.x.m)
    (hx : P.x.m ≠ .no → w0.heap.size ≤ x ∧ ∀ j, j < K → j ≠ i → (S.P.getD j .no).x.m ≠ .no → q j ≠ x) : GW w0 w' gb p m k g cap bp K pc C (fun b => if b = i then x else q b) row' ov ⟨S.s, S.P.set i P, S.now, S.out⟩ := by
  obtain ⟨cs0, hb0, hc0⟩ := h.pb
  obtain ⟨n1, n2, n3, n4⟩ := h.env hb0 (by decide) (by decide) (by decide) (by decide)
  have hl := h.len
  have e1 : (S.P.set i P).getD i .no = P := set_at _ _ _ _ (by omega)
  have e2 : ∀ b, b ≠ i → (S.P.set i P).getD b .no = S.P.getD b .no := fun b hb => set_off _ _ _ _ _ (fun e => hb e.symm)
  have hact : ∀ g cur, Blk w g 138 cur → g ∉ [bp] := fun g cur hg => by simpa using hg.apart hb0 (by decide)
  refine ⟨h.gm.of_same (hf.block gb h.gm.lt (by simpa using h.gm.apart hb0 (by decide))), h.pe.fr hf (by simpa using n1) (by simpa using n2) (by simpa using n3) (by simpa using n4), h.n, hp, h.out.same (fun b hb => ?_), by show (S.P.set i P).length = K; rw [List.length_set]; exact hl, fun b hb => ?_, fun b hb => ?_, fun b c hb hc hbc m1 m2 => ?_, fun b hb m1 => ?_, h.lb, below_of_fr h.b hf (fun y hy => by simp at hy; rw [hy]; exact h.lb.2.2.2.2.2)⟩
  · obtain ⟨cur, hc⟩ := h.out.ty b hb
    exact hf.block b hc.lt (by simpa using hc.apart hb0 (by decide))
  · by_cases e : b = i
    · subst e
      show PlC w' _ (row' b) b (if b = b then x else q b) ((S.P.set b P).getD b .no)
      rw [if_pos rfl, e1]
      exact pl
    · show PlC w' _ (row' b) b (if b = i then x else q b) ((S.P.set i P).getD b .no)
      rw [if_neg e, e2 b e, show row' b = row b from funext fun c => hrow b c e]
      exact (h.pl b hb).fr hf hact
  · by_cases e : b = i
    · subst e
      show MO w' (if b = b then x else q b) ((S.P.set b P).getD b .no).x.m
      rw [if_pos rfl, e1]
      exact mo
    · show MO w' (if b = i then x else q b) ((S.P.set i P).getD b .no).x.m
      rw [if_neg e, e2 b e]
      exact (h.mo b hb).off hb0 (by decide) (by decide) (by decide) hf
  · replace m1 : ((S.P.set i P).getD b .no).x.m ≠ .no := m1
    replace m2 : ((S.P.set i P).getD c .no).x.m ≠ .no := m2
    show (if b = i then x else q b) ≠ (if c = i then x else q c)
    by_cases eb : b = i
    · subst eb
      have hc' : c ≠ b := fun e => hbc e.symm
      rw [e1] at m1
      rw [e2 c hc'] at m2
      rw [if_pos rfl, if_neg hc']
      exact ((hx m1).2 c hc hc' m2).symm
    · rw [if_neg eb]
      rw [e2 b eb] at m1
      by_cases ec : c = i
      · subst ec
        rw [e1] at m2
        rw [if_pos rfl]
        exact (hx m2).2 b hb eb m1
      · rw [if_neg ec]
        rw [e2 c ec] at m2
        exact h.ap b c hb hc hbc m1 m2
  · replace m1 : ((S.P.set i P).getD b .no).x.m ≠ .no := m1
    show _ ≤ (if b = i then x else q b)
    by_cases e : b = i
    · subst e
      rw [e1] at m1
      rw [if_pos rfl]
      exact (hx m1).1
    · rw [e2 b e] at m1
      rw [if_neg e]
      exact h.lo b hb m1
/-- A machine has made a step. -/
theorem GW.step (h : GW w0 w gb p m k g cap bp K pc C q row ov S) {i : Nat} {s' : St} {X : Mach} {ty : TypeId} {post : List Value} {f : Fra} (hi : i < K) (hn : (S.P.getD i .no).x.m ≠ .no) (ho : OB w (q i) ty post f 0 0) (ht : ty = 264 ∨ ty = 267 ∨ ty = 270)
    (hp : PE w' p m k g cap s' 0 0 hd0 (.slice none 0 0) (.slice none 0 0)) (hf : Fr [m, g, q i] w w') (hN : s'.N) (hX : MO w' (q i) X) (hv : mval (q i) X = mval (q i) (S.P.getD i .no).x.m) (hk : X.kind = (S.P.getD i .no).x.m.kind) :
    GW w0 w' gb p m k g cap bp K pc C q row ov ⟨s', S.P.set i ⟨(S.P.getD i .no).acts, ⟨X, (S.P.getD i .no).x.sn, (S.P.getD i .no).x.vl⟩⟩, S.now, S.out⟩ := by
  obtain ⟨cs2, hgb⟩ := h.hg
  have hl := h.len
  have e1 : ∀ P : Plr, (S.P.set i P).getD i .no = P := fun P => set_at _ _ _ _ (by omega)
  have e2 : ∀ (P : Plr) b, b ≠ i → (S.P.set i P).getD b .no = S.P.getD b .no := fun P b hb => set_off _ _ _ _ _ (fun e => hb e.symm)
  have keep : ∀ {b : Nat} {t : TypeId} {cs : Array Value}, Blk w b t cs → t ≠ 133 → t ≠ 50 → (t ≠ 264 ∧ t ≠ 267 ∧ t ≠ 270) → b ∉ [m, g, q i] := fun {b t cs} hb n1 n2 n3 => by
    simp only [List.mem_cons, List.not_mem_nil, or_false, not_or]
    refine ⟨hb.apart h.pe.mem.blk n1, hb.apart hgb n2, hb.apart ho.blk ?_⟩
    rcases ht with rfl | rfl | rfl
    · exact n3.1
    · exact n3.2.1
    · exact n3.2.2
  have hact : ∀ g0 cur, Blk w g0 138 cur → g0 ∉ [m, g, q i] := fun g0 cur hg => keep hg (by decide) (by decide) (by decide)
  have hno : X ≠ .no := fun e => by
    subst e
    have := mval_live (q i) hn
    obtain ⟨ty2, hty⟩ := this
    rw [hty] at hv
    cases hv
  obtain ⟨cs0, hb0, hc0⟩ := h.pb
  refine ⟨h.gm.of_same (hf.block gb h.gm.lt (keep h.gm (by decide) (by decide) (by decide))), hp, hN, ⟨cs0, hb0.of_same (hf.block bp hb0.lt (keep hb0 (by decide) (by decide) (by decide))), hc0⟩, h.out.same (fun b hb => ?_), by show (S.P.set i _).length = K; rw [List.length_set]; exact hl, fun b hb => ?_, fun b hb => ?_, fun b c hb hc hbc m1 m2 => ?_, fun b hb m1 => ?_, h.lb, below_of_fr h.b hf (fun y hy => ?_)⟩
  · obtain ⟨cur, hc⟩ := h.out.ty b hb
    exact hf.block b hc.lt (keep hc (by decide) (by decide) (by decide))
  · have h0 := (h.pl b hb).fr hf hact
    by_cases e : b = i
    · subst e
      show PlC w' _ (row b) b (q b) ((S.P.set b _).getD b .no)
      rw [e1]
      exact ⟨h0.ac, h0.mv.trans hv.symm, h0.nt, fun _ => by
        have := h0.on hn
        show row b 2 = .int .i64 X.kind ∧ _
        rw [hk]
        exact this⟩
    · show PlC w' _ (row b) b (q b) ((S.P.set i _).getD b .no)
      rw [e2 _ b e]
      exact h0
  · by_cases e : b = i
    · subst e
      show MO w' (q b) ((S.P.set b _).getD b .no).x.m
      rw [e1]
      exact hX
    · show MO w' (q b) ((S.P.set i _).getD b .no).x.m
      rw [e2 _ b e]
      refine (h.mo b hb).fr hf (fun n1 hob => ?_)
      obtain ⟨ty2, post2, f2, ho2⟩ := hob
      obtain ⟨m1, m2, m3, m4⟩ := ho2.ne h.pe
      simp only [List.mem_cons, List.not_mem_nil, or_false, not_or]
      exact ⟨m2, m4, h.ap b i hb hi e n1 hn⟩
  · refine h.ap b c hb hc hbc ?_ ?_
    · by_cases e : b = i
      · rw [e]; exact hn
      · replace m1 : ((S.P.set i _).getD b .no).x.m ≠ .no := m1
        rw [e2 _ b e] at m1; exact m1
    · by_cases e : c = i
      · rw [e]; exact hn
      · replace m2 : ((S.P.set i _).getD c .no).x.m ≠ .no := m2
        rw [e2 _ c e] at m2; exact m2
  · refine h.lo b hb ?_
    by_cases e : b = i
    · rw [e]; exact hn
    · replace m1 : ((S.P.set i _).getD b .no).x.m ≠ .no := m1
      rw [e2 _ b e] at m1; exact m1
  · simp only [List.mem_cons, List.not_mem_nil, or_false] at hy
    rcases hy with rfl | rfl | rfl
    · exact h.lb.2.2.1
    · exact h.lb.2.2.2.2.1
    · exact h.lo i hi hn
/-- Another count. -/
theorem GW.count (h : GW w0 w gb p m k g cap bp K pc C q row ov S) (now : Nat) : GW w0 (w.setCell ⟨gb, 6, none⟩ (.int .i64 now)) gb p m k g cap bp K pc C q row ov ⟨S.s, S.P, now, S.out⟩ := by
  have hf : Fr [gb] w (w.setCell ⟨gb, 6, none⟩ (.int .i64 now)) := (Fr.refl _ _).setCell (by simp) _
  obtain ⟨n1, n2, n3, n4⟩ := h.env h.gm (by decide) (by decide) (by decide) (by decide)
  obtain ⟨cs0, hb0, hc0⟩ := h.pb
  refine ⟨h.gm.put 6 (.int .i64 now), h.pe.fr hf (by simpa using n1) (by simpa using n2) (by simpa using n3) (by simpa using n4), h.n, ⟨cs0, hb0.of_same (hf.block bp hb0.lt (by simpa using hb0.apart h.gm (by decide))), hc0⟩, h.out.same (fun b hb => ?_), h.len, fun i hi => (h.pl i hi).fr hf (fun g0 cur hg => by simpa using hg.apart h.gm (by decide)), fun i hi => (h.mo i hi).off h.gm (by decide) (by decide) (by decide) hf, h.ap, h.lo, h.lb, below_of_fr h.b hf (fun y hy => by simp at hy; rw [hy]; exact h.lb.1)⟩
  obtain ⟨cur, hc⟩ := h.out.ty b hb
  exact hf.block b hc.lt (by simpa using hc.apart h.gm (by decide))
/-- One more is done: the list has grown and is stored. -/
theorem GW.outs (h : GW w0 w gb p m k g cap bp K pc C q row ov S) {ov' : Value} {x : OpR} (hg : w.grownBy w' ov.ownBlock) (ho : OwnG w' w0.heap.size 80 6 ov' (S.out.map opL ++ [opL x])) :
    GW w0 (w'.setCell ⟨gb, 7, none⟩ ov') gb p m k g cap bp K pc C q row ov' ⟨S.s, S.P, S.now, S.out ++ [x]⟩ := by
  have hob : ∀ {b : Nat} {t : TypeId} {cs : Array Value}, Blk w b t cs → t ≠ 80 → b ∉ ov.ownBlock.toList := fun {b t cs} hb ht hm => by
    rw [Option.mem_toList] at hm
    obtain ⟨cur, hc⟩ := h.out.ty b hm
    exact absurd rfl (hb.apart hc ht)
  have hf1 : Fr ov.ownBlock.toList w w' := ⟨hg.os, hg.tape, hg.output, hg.size, fun k hk hn => hg.block k hk (fun e => hn (by simp [← e]))⟩
  have hf2 : Fr (gb :: ov.ownBlock.toList) w (w'.setCell ⟨gb, 7, none⟩ ov') := (hf1.mono (fun k hk => List.mem_cons_of_mem _ hk)).setCell (.inl (by simp)) ov'
  obtain ⟨n1, n2, n3, n4⟩ := h.env h.gm (by decide) (by decide) (by decide) (by decide)
  obtain ⟨cs2, hgb⟩ := h.hg
  obtain ⟨cs0, hb0, hc0⟩ := h.pb
  have hgm : Blk w' gb _ _ := h.gm.of_same (hf1.block gb h.gm.lt (hob h.gm (by decide)))
  have no : ∀ {b : Nat}, b ≠ gb → b ∉ ov.ownBlock.toList → b ∉ gb :: ov.ownBlock.toList := fun {b} h1 h2 hm => by
    rcases List.mem_cons.1 hm with e | e
    · exact h1 e
    · exact h2 e
  refine ⟨hgm.put 7 ov', h.pe.fr hf2 (no n1 (hob h.pe.blk (by decide))) (no n2 (hob h.pe.mem.blk (by decide))) (no n3 (hob h.pe.clk (by decide))) (no n4 (hob hgb (by decide))), h.n, ⟨cs0, hb0.of_same (hf2.block bp hb0.lt (no (hb0.apart h.gm (by decide)) (hob hb0 (by decide)))), hc0⟩, ?_, h.len, fun i hi => (h.pl i hi).fr hf2 (fun g0 cur hg0 => no (hg0.apart h.gm (by decide)) (hob hg0 (by decide))), fun i hi => (h.mo i hi).fr hf2 (fun hn hobx => ?_), h.ap, h.lo, h.lb, below_of_fr h.b hf2 (fun y hy => ?_)⟩
  · show OwnG _ _ _ _ _ ((S.out ++ [x]).map opL)
    rw [List.map_append]
    refine ho.same (fun b hb => Below.heap_setCell _ _ _ _ (fun e => ?_))
    subst e
    obtain ⟨cur, hc⟩ := ho.ty b hb
    exact absurd rfl (hgm.apart hc (by decide))
  · obtain ⟨ty2, post2, f2, ho2, hty⟩ := (h.mo i hi).ob hn
    refine no (ho2.blk.apart h.gm ?_) (hob ho2.blk ?_)
    · rcases hty with rfl | rfl | rfl <;> decide
    · rcases hty with rfl | rfl | rfl <;> decide
  · rcases List.mem_cons.1 hy with rfl | hy
    · exact h.lb.1
    · rw [Option.mem_toList] at hy
      exact (h.out.lt y hy).1
end
end Go.Proofs.YtjehiekmlbeaeaaGreat
