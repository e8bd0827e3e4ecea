/-
  The law of the stacks: a slice of slices of ints, each in a block of the call's own.
  The laws of levels: the chapter's example.
-/
import Derived.Test.YtmoblcfjplolgaaMgBS
import Derived.Laws.MakeOwn
namespace Go.Proofs.Ytmoblcfjplolgaa
open Go Go.RowKit Go.Shelf
set_option linter.unusedSimpArgs false
set_option linter.unusedVariables false

theorem OwnI.ty {w : World} {B : Nat} {v : Value} {l : List Int} (h : OwnI w B v l) : ∀ k, v.ownBlock = some k → ∃ cur, Blk w k 3 cur := by
  intro k hk
  rcases h.2 with ⟨e, _⟩ | ⟨g', cap', cur', e, _, hg', _⟩
  · rw [e] at hk
    simp [Value.ownBlock] at hk
  · rw [e] at hk
    simp only [Value.ownBlock, Option.some.injEq] at hk
    subst hk
    exact ⟨cur', hg'⟩
theorem info_ints : (Try.prog.info? 22).map (fun i => (i.zero, i.size, i.bytes)) = some (some (.slice none 0 0), 1, 24) := by kernel_rfl
/-- Lists of ints, each in a block of the call's own. -/
structure SO (w0 w : World) (ob K : Nat) (ls : Nat → List Int) (V : List Value) : Prop where
  blk : Blk w ob 22 V.toArray
  lv : V.length = K
  own : ∀ i, i < K → OwnI w w0.heap.size (V.getD i undef) (ls i)
  di : ∀ i j b, i < K → j < K → (V.getD i undef).ownBlock = some b → (V.getD j undef).ownBlock = some b → i = j
  lo : w0.heap.size ≤ ob
section
variable {w0 w w' : World} {ob K : Nat} {ls : Nat → List Int} {V : List Value}
theorem SO.fr {S : List Nat} (h : SO w0 w ob K ls V) (hf : Fr S w w') (h1 : ob ∉ S) (h2 : ∀ x, x ∈ S → ∀ cur, ¬ Blk w x 3 cur) : SO w0 w' ob K ls V :=
  ⟨h.blk.of_same (hf.block ob h.blk.lt h1), h.lv, fun i hi => row_frS (h.own i hi) hf (fun k hk hm => by obtain ⟨cur, hc⟩ := (h.own i hi).ty k hk; exact h2 k hm cur hc), h.di, h.lo⟩
theorem SO.below (h : SO w0 w ob K ls V) (hb : Below w.heap.size w w') : SO w0 w' ob K ls V := h.fr (S := []) (Fr.old hb) (by simp) (fun x hx => by cases hx)
theorem SO.cell (h : SO w0 w ob K ls V) {i : Nat} (hi : i < K) : w.cell? ⟨ob, i, none⟩ = some (V.getD i undef) := by
  rw [h.blk.at_, List.getElem?_toArray, List.getD_eq_getElem?_getD, List.getElem?_eq_getElem (by rw [h.lv]; exact hi)]
  rfl
/-- One row has become another one, in a world in which the others' blocks have not changed. -/
theorem SO.set {i : Nat} {v' : Value} {l' : List Int} (h : SO w0 w ob K ls V) (hi : i < K) (hf : Fr (V.getD i undef).ownBlock.toList w w') (ho : OwnI w' w0.heap.size v' l') (hn : v'.ownBlock = (V.getD i undef).ownBlock ∨ v'.ownBlock = some w.heap.size) :
    SO w0 (w'.setCell ⟨ob, i, none⟩ v') ob K (updL ls i l') (V.set i v') := by
  have hob : ob ∉ (V.getD i undef).ownBlock.toList := fun hm => by
    rw [Option.mem_toList] at hm
    obtain ⟨cur, hc⟩ := (h.own i hi).ty ob hm
    exact absurd rfl (h.blk.apart hc (by decide))
  have hf2 : Fr (ob :: (V.getD i undef).ownBlock.toList) w (w'.setCell ⟨ob, i, none⟩ v') := (hf.mono (fun k hk => List.mem_cons_of_mem _ hk)).setCell (.inl (by simp)) v'
  have hblk : Blk w' ob _ _ := h.blk.of_same (hf.block ob h.blk.lt hob)
  have eV : ∀ j, j ≠ i → (V.set i v').getD j undef = V.getD j undef := fun j hj => by
    simp only [List.getD_eq_getElem?_getD]
    rw [List.getElem?_set_ne (fun e => hj e.symm)]
  have eV2 : (V.set i v').getD i undef = v' := by
    rw [List.getD_eq_getElem?_getD, List.getElem?_set_self (by rw [h.lv]; exact hi)]
    rfl
  have fresh : ∀ j b, j < K → j ≠ i → (V.getD j undef).ownBlock = some b → v'.ownBlock = some b → False := fun j b hj hji h1 h2 => by
    rcases hn with e | e
    · exact hji (h.di j i b hj hi h1 (e ▸ h2))
    · have := ((h.own j hj).lt b h1).2
      rw [h2] at e
      have := Option.some.inj e
      omega
  have tyne : ∀ {x : Value} {R : List Int} {wx : World} {cs : Array Value}, OwnI wx w0.heap.size x R → Blk wx ob 22 cs → ∀ b, x.ownBlock = some b → b ≠ ob := fun hx hb b he e => by
    obtain ⟨cur, hc⟩ := hx.ty b he
    subst e
    exact absurd rfl (hb.apart hc (by decide))
  refine ⟨?_, by rw [List.length_set]; exact h.lv, fun j hj => ?_, fun j k b hj hk h1 h2 => ?_, h.lo⟩
  · have := hblk.put i v'
    simpa using this
  · by_cases e : j = i
    · subst e
      rw [eV2, updL_same]
      exact row_same ho (fun b hb => Below.heap_setCell _ _ _ _ (tyne ho hblk b hb))
    · rw [eV j e, updL_other ls l' e]
      refine row_same (h.own j hj) (fun b hb => ?_)
      have hlt := ((h.own j hj).lt b hb).2
      refine hf2.block b hlt (fun hm => ?_)
      rcases List.mem_cons.1 hm with e1 | e1
      · exact tyne (h.own j hj) h.blk b hb e1
      · rw [Option.mem_toList] at e1
        exact e (h.di j i b hj hi hb e1)
  · by_cases e1 : j = i
    · by_cases e2 : k = i
      · rw [e1, e2]
      · subst e1
        rw [eV2] at h1
        rw [eV k e2] at h2
        exact (fresh k b hk e2 h2 h1).elim
    · rw [eV j e1] at h1
      by_cases e2 : k = i
      · subst e2
        rw [eV2] at h2
        exact (fresh j b hj e1 h1 h2).elim
      · rw [eV k e2] at h2
        exact h.di j k b hj hk h1 h2
theorem SO.made (hb : w0.heap.size ≤ w.heap.size) (K : Nat) : SO w0 (w.alloc (.cells (madeCells #[.slice none 0 0] K) 22)) w.heap.size K (fun _ => []) (List.replicate K (.slice none 0 0)) := by
  have eV : ∀ i, i < K → (List.replicate K (Value.slice none 0 0)).getD i undef = .slice none 0 0 := fun i hi => by
    rw [List.getD_eq_getElem?_getD, List.getElem?_replicate, if_pos hi]
    rfl
  refine ⟨?_, List.length_replicate, fun i hi => ?_, fun i j b hi hj h1 h2 => ?_, hb⟩
  · have := Blk.made w 22 (madeCells #[.slice none 0 0] K)
    have e : madeCells #[Value.slice none 0 0] K = (List.replicate K (Value.slice none 0 0)).toArray := by
      refine Array.ext (by simp [madeCells]) (fun i h1 h2 => ?_)
      simp [madeCells, Nat.mod_one]
    rw [e] at this ⊢
    exact this
  · rw [eV i hi]
    exact OwnI.nil ..
  · rw [eV i hi] at h1
    cases h1
end
section
variable {w0 w w' : World} {p m k g cap : Nat} {c : Cfg} {hd : List Value} {rv ev : Value} {s s' : St}
theorem EW.fr {S : List Nat} (h : EW w0 p m k g cap c hd rv ev s w) (hf : Fr S w w') (h1 : ∀ x, x ∈ S → w0.heap.size ≤ x) (h2 : ∀ x, x ∈ S → ∀ (t : TypeId) cur, Blk w x t cur → t ≠ 40 ∧ t ≠ 91 ∧ t ≠ 115 ∧ t ≠ 49) : EW w0 p m k g cap c hd rv ev s w' := by
  obtain ⟨cur, hg, _⟩ := h.e.mem.row.blk
  refine ⟨h.e.fr hf (fun hm => (h2 p hm _ _ h.e.blk).1 rfl) (fun hm => (h2 m hm _ _ h.e.mem.blk).2.1 rfl) (fun hm => (h2 k hm _ _ h.e.clk).2.2.1 rfl) (fun hm => (h2 g hm _ _ hg).2.2.2 rfl), h.l, h.i, h.u, below_of_fr h.b hf h1, h.lo⟩
end
/-- An append at the operation, for the walk; where its row lies is told. -/
theorem wpList_appO {w : World} {ops : Array Oper} {rest : List Oper} {o : Oper} {a : Act} {Q : Exit → Act → World → Prop} (hgd : o.guard = none) (s x : Operand)
    (ho : o.op = .call { callee := .builtin .append, args := #[s, x], argTypes := #[22, 22] })
    {base : Nat} {v : Value} {l : List Int} (hs : a.eval s = v) (hown : OwnI w base v l) {ad : Addr} {m c : Nat} {ns : List Int} (hx : a.eval x = .slice (some ad) m c) (hl : ns.length = m)
    (hnews : ∀ j u, (ns.map (Value.int .i64))[j]? = some u → w.cell? (ad.add j) = some u) (hn : l.length + m ≤ 1000000) (hb : base ≤ w.heap.size)
    (h : ∀ v' w', OwnI w' base v' (l ++ ns) → w.grownBy w' v.ownBlock → (v'.ownBlock = v.ownBlock ∨ v'.ownBlock = some w.heap.size) → wpList Try.prog ops Q rest (a.put o.dst v') w') :
    wpList Try.prog ops Q (o :: rest) a w := by
  obtain ⟨i0, hi, hz0, hz1, hz2⟩ := info_parts info_int
  refine wpList_append_own_at w hgd s x 22 ho base 3 i0 _ 1 8 Try.underlying22 hi hz0 hz1 hz2 rfl (by omega) v l.length (l.map (Value.int .i64)) hs hown ad m c (ns.map (Value.int .i64)) hx (by simpa using hl) hnews (ints_one ns) (by unfold maxLen; omega) (by omega) hb ?_
  intro v' w' h1 h2 _ h3
  refine h v' w' ?_ h2 h3
  unfold OwnI
  rw [List.map_append, List.length_append, hl]
  exact h1
theorem grown_fr {w w' : World} {o : Option Nat} (hg : w.grownBy w' o) : Fr o.toList w w' := ⟨hg.os, hg.tape, hg.output, hg.size, fun k hk hn => hg.block k hk (fun e => hn (by first | (rw [Option.mem_toList]; exact e) | (rw [Option.mem_toList]; exact e.symm)))⟩
theorem v5_ty {w : World} {b : Nat} {x : Fra × Option Fra} {i : Option Nat} (h : V5 w b x i) : ∀ cur, ¬ Blk w b 3 cur := fun cur hc => by
  obtain ⟨u, _, hb, _⟩ := h
  exact absurd rfl (hb.blk.apart hc (by decide))
theorem v6_ty {w : World} {b : Nat} {x : Fra × Option Fra} {i : Option Nat} (h : V6 w b x i) : ∀ cur, ¬ Blk w b 3 cur := fun cur hc => by
  obtain ⟨u, _, hb, _⟩ := h
  exact absurd rfl (hb.blk.apart hc (by decide))
/-- The environment, a worker's deques, and the stacks that they are to be. -/
structure SV (w0 : World) (p m k g cap : Nat) (c : Cfg) (hd : List Value) (rv : Value) (n kk gs : Nat) (s : St) (T : Nat → Nat) (ls : Nat → List Int) (V : List Value) (B : Nat) (w : World) : Prop where
  e : EW w0 p m k g cap c hd rv (.slice none 0 0) s w
  v : LvI c n kk 7 8 s T ls B
  o : SO w0 w gs n ls V
  r : ∀ a, a < n → ∀ x, x ∈ ls a → 0 ≤ x ∧ x < 1000
section
variable {w0 w w' : World} {p m k g cap : Nat} {c : Cfg} {hd : List Value} {rv : Value} {n kk gs : Nat} {s s' : St} {T T' : Nat → Nat} {ls ls' : Nat → List Int} {V : List Value} {B B' : Nat}
theorem SV.below (h : SV w0 p m k g cap c hd rv n kk gs s T ls V B w) (hb : Below w.heap.size w w') : SV w0 p m k g cap c hd rv n kk gs s T ls V B w' := ⟨h.e.below hb, h.v, h.o.below hb, h.r⟩
/-- What a machine alone leaves of environment and stacks. -/
theorem SV.alone (h : SV w0 p m k g cap c hd rv n kk gs s T ls V B w) {b : Nat} (hb : w0.heap.size ≤ b) (hne : gs ≠ b) (hty : ∀ cur, ¬ Blk w b 3 cur) (hp : PE w' p m k g cap s' 0 0 hd rv (.slice none 0 0)) (hf : Fr [m, g, b] w w') (hu : s'.U) :
    EW w0 p m k g cap c hd rv (.slice none 0 0) s' w' ∧ SO w0 w' gs n ls V := by
  obtain ⟨cur, hg, _⟩ := h.e.e.mem.row.blk
  refine ⟨h.e.done hb hp hf hu, h.o.fr hf ?_ (fun x hx cur2 hc => ?_)⟩
  · simp only [List.mem_cons, List.not_mem_nil, or_false, not_or]
    exact ⟨h.o.blk.apart h.e.e.mem.blk (by decide), h.o.blk.apart hg (by decide), hne⟩
  · simp only [List.mem_cons, List.not_mem_nil, or_false] at hx
    rcases hx with rfl | rfl | rfl
    · exact absurd rfl (hc.apart h.e.e.mem.blk (by decide))
    · exact absurd rfl (hc.apart hg (by decide))
    · exact hty _ hc
/-- One row has become another one. -/
theorem SV.put (h : EW w0 p m k g cap c hd rv (.slice none 0 0) s w) (ho : SO w0 w gs n ls V) {i : Nat} (hi : i < n) {v' : Value} {l' : List Int} (hf : Fr (V.getD i undef).ownBlock.toList w w') (hown : OwnI w' w0.heap.size v' l') (hn : v'.ownBlock = (V.getD i undef).ownBlock ∨ v'.ownBlock = some w.heap.size) (hv : LvI c n kk 7 8 s T' (updL ls i l') B') (hr : ∀ a, a < n → ∀ x, x ∈ updL ls i l' a → 0 ≤ x ∧ x < 1000) :
    SV w0 p m k g cap c hd rv n kk gs s T' (updL ls i l') (V.set i v') B' (w'.setCell ⟨gs, i, none⟩ v') := by
  have hb1 : ∀ x, x ∈ (V.getD i undef).ownBlock.toList → w0.heap.size ≤ x ∧ ∃ cur, Blk w x 3 cur := fun x hx => by
    rw [Option.mem_toList] at hx
    exact ⟨((ho.own i hi).lt x hx).1, (ho.own i hi).ty x hx⟩
  have hf2 : Fr (gs :: (V.getD i undef).ownBlock.toList) w (w'.setCell ⟨gs, i, none⟩ v') := (hf.mono (fun k hk => List.mem_cons_of_mem _ hk)).setCell (.inl (by simp)) v'
  refine ⟨h.fr hf2 (fun x hx => ?_) (fun x hx t cur hc => ?_), hv, ho.set hi hf hown hn, hr⟩
  · rcases List.mem_cons.1 hx with e | e
    · rw [e]; exact ho.lo
    · exact (hb1 x e).1
  · rcases List.mem_cons.1 hx with e | e
    · subst e
      have := ty_at hc ho.blk
      subst this
      decide
    · obtain ⟨cur2, hc2⟩ := (hb1 x e).2
      have := ty_at hc hc2
      subst this
      decide
end
end Go.Proofs.Ytmoblcfjplolgaa

namespace Go.Proofs.Ytmoblcfjplolgaa
open Go Go.RowKit Go.Shelf
set_option linter.unusedSimpArgs false
set_option linter.unusedVariables false

/-- The steps of a machine, with so many at most. -/
def runL (c : Cfg) : Nat → St → Fra × Option Fra → Option (St × Res × Nat)
  | 0, _, _ => none
  | n + 1, s, x => if (lvS c s x).2.2.dn = true then some ((lvS c s x).1, (lvS c s x).2.2, 1) else (runL c n (lvS c s x).1 (lvS c s x).2.1).map fun y => (y.1, y.2.1, y.2.2 + 1)
theorem RunM.of_runL {c : Cfg} : ∀ {n : Nat} {s s' : St} {x : Fra × Option Fra} {r : Res} {N : Nat}, runL c n s x = some (s', r, N) → RunM (lvS c) s x s' r N ∧ N ≤ n
  | 0, _, _, _, _, _, h => by simp [runL] at h
  | n + 1, s, s', x, r, N, h => by
    unfold runL at h
    cases hd : (lvS c s x).2.2.dn with
    | true =>
      rw [if_pos hd] at h
      simp only [Option.some.injEq, Prod.mk.injEq] at h
      obtain ⟨e1, e2, e3⟩ := h
      rw [← e1, ← e2, ← e3]
      exact ⟨.last hd, by omega⟩
    | false =>
      rw [if_neg (by rw [hd]; decide)] at h
      cases h2 : runL c n (lvS c s x).1 (lvS c s x).2.1 with
      | none => rw [h2] at h; simp at h
      | some y =>
        rw [h2] at h
        obtain ⟨a, b, d⟩ := y
        simp only [Option.map_some, Option.some.injEq, Prod.mk.injEq] at h
        obtain ⟨rfl, rfl, rfl⟩ := h
        have := RunM.of_runL h2
        exact ⟨.cons hd this.1, by omega⟩
def awkB : Bool :=
  match runL (twoC 2 1) 20 (St.new (rCells (twoC 2 1)).toNat) (fraLP 0 0 5, none) with
  | some (s1, _, _) =>
    match runL (twoC 2 1) 20 s1 (fraLP 0 1 6, none) with
    | some (s2, _, _) =>
      match runL (twoC 2 1) 40 s2 (fraLQ 0, none) with
      | some (s3, r3, n3) =>
        match runL (twoC 2 1) 40 s3 (fraLQ 0, none) with
        | some (_, r4, n4) => r3.cd == 1 && r3.vl == 6 && n3 == 8 && r4.cd == 1 && r4.vl == 5 && n4 == 14
        | none => false
      | none => false
    | none => false
  | none => false
theorem awkB_true : awkB = true := by decide +kernel
theorem awk_runs : ∃ s1 r1 n1 s2 r2 n2 s3 r3 s4 r4, (RunM (lvS (twoC 2 1)) (St.new (rCells (twoC 2 1)).toNat) (fraLP 0 0 5, none) s1 r1 n1 ∧ n1 ≤ 20) ∧ (RunM (lvS (twoC 2 1)) s1 (fraLP 0 1 6, none) s2 r2 n2 ∧ n2 ≤ 20) ∧
    (RunM (lvS (twoC 2 1)) s2 (fraLQ 0, none) s3 r3 8 ∧ r3.cd = 1 ∧ r3.vl = 6) ∧ RunM (lvS (twoC 2 1)) s3 (fraLQ 0, none) s4 r4 14 ∧ r4.cd = 1 ∧ r4.vl = 5 := by
  have h := awkB_true
  unfold awkB at h
  split at h
  case h_2 => cases h
  rename_i s1 r1 n1 h1
  split at h
  case h_2 => cases h
  rename_i s2 r2 n2 h2
  split at h
  case h_2 => cases h
  rename_i s3 r3 n3 h3
  split at h
  case h_2 => cases h
  rename_i s4 r4 n4 h4
  simp only [Bool.and_eq_true, beq_iff_eq] at h
  obtain ⟨⟨⟨⟨⟨e1, e2⟩, e3⟩, e4⟩, e5⟩, e6⟩ := h
  subst e3
  subst e6
  exact ⟨s1, r1, n1, s2, r2, n2, s3, r3, s4, r4, RunM.of_runL h1, RunM.of_runL h2, ⟨(RunM.of_runL h3).1, e1, e2⟩, (RunM.of_runL h4).1, e4, e5⟩
theorem xu_new {f : Fra} (h : f.U) : XU (f, none) := ⟨h, fun y hy => by cases hy⟩

set_option maxRecDepth 100000 in
set_option maxHeartbeats 8000000 in
theorem awake13_any (w : World) : Calls Try.prog 8 #[] w fun e w' => e = .returned (.bool true) ∧ Below w.heap.size w w' := by
  obtain ⟨s1, r1, n1, s2, r2, n2, s3, r3, s4, r4, ⟨h1, l1⟩, ⟨h2, l2⟩, ⟨h3, c3, v3⟩, h4, c4, v4⟩ := awk_runs
  have HR := Lib.hid (And.intro h1 (And.intro h2 (And.intro h3 h4)))
  have HL := Lib.hid (And.intro l1 l2)
  have HC := Lib.hid (And.intro c3 (And.intro v3 (And.intro c4 v4)))
  clear h1 h2 h3 h4 l1 l2 c3 v3 c4 v4
  have htwo := two_any 2 1 w
  rw [show ((2 : Nat) : Int) = 2 from rfl, show ((1 : Nat) : Int) = 1 from rfl] at htwo
  have HT := Lib.hid htwo
  clear htwo
  go_enter Try.func8, Try.ntmps8
  go_wp2_with fail
  (with_reducible refine HT.out.mono ?_)
  rintro e w1 ⟨pa, pn, pc, sa, sn, sc, rfl, hl, hb1⟩
  have HL1 := Lib.hid hl
  have HB1 := Lib.hid hb1
  clear hl hb1 HT
  go_wp2_with fail
  (with_reducible refine (enew_any HL1.out pc sc (two_chk ⟨by decide, by decide⟩ ⟨by decide, by decide⟩)).mono ?_)
  rintro e w2 ⟨p, m, k, g, hd, rv, rfl, hE⟩
  have E2 := Lib.hid (show EW w p m k g _ (twoC 2 1) hd rv (.slice none 0 0) _ w2 from ⟨hE.e, hE.l, hE.i, hE.u, HB1.out.trans (hE.b.mono HB1.out.size), by have := hE.lo; have := HB1.out.size; omega⟩)
  have e20 := E2.out.e.at20
  clear hE HL1 HB1
  go_wp2_with fail
  (with_reducible refine (lvPush_any 0 0 5 _).mono ?_)
  rintro e w3 ⟨b3, rfl, hv, hbl, hb⟩
  have E3 := Lib.hid (E2.out.below hb)
  have hA := alone_lvpusher (most := 20) E3.out.e E3.out.l E3.out.i hv E3.out.u (xu_new ⟨uw_zero, uw_zero, uw_zero, uw_zero⟩) HR.out.1 HL.out.1 (by decide)
  rw [show ((20 : Nat) : Int) = 20 from rfl] at hA
  have HA := Lib.hid hA
  have HBL := Lib.hid (Nat.le_trans E2.out.b.size hbl)
  clear hA hv hbl hb E2
  go_wp2_with fail
  (with_reducible refine HA.out.mono ?_)
  rintro e w4 ⟨rfl, hp, hf⟩
  have E4 := Lib.hid (E3.out.done HBL.out hp hf (RunM_U HR.out.1 E3.out.u (xu_new ⟨uw_zero, uw_zero, uw_zero, uw_zero⟩)))
  clear hp hf HA HBL E3
  go_wp2_with fail
  (with_reducible refine (lvPush_any 0 1 6 _).mono ?_)
  rintro e w5 ⟨b5, rfl, hv, hbl, hb⟩
  have E5 := Lib.hid (E4.out.below hb)
  have hA := alone_lvpusher (most := 20) E5.out.e E5.out.l E5.out.i hv E5.out.u (xu_new ⟨uw_zero, uw_zero, uw_zero, uw_zero⟩) HR.out.2.1 HL.out.2 (by decide)
  rw [show ((20 : Nat) : Int) = 20 from rfl] at hA
  have HA := Lib.hid hA
  have HBL := Lib.hid (Nat.le_trans E4.out.b.size hbl)
  clear hA hv hbl hb E4
  go_wp2_with fail
  (with_reducible refine HA.out.mono ?_)
  rintro e w6 ⟨rfl, hp, hf⟩
  have E6 := Lib.hid (E5.out.done HBL.out hp hf (RunM_U HR.out.2.1 E5.out.u (xu_new ⟨uw_zero, uw_zero, uw_zero, uw_zero⟩)))
  clear hp hf HA HBL E5
  go_wp2_with fail
  (with_reducible refine (lvPop_any 0 _).mono ?_)
  rintro e w7 ⟨b7, rfl, hv, hbl, hb⟩
  have E7 := Lib.hid (E6.out.below hb)
  have hA := alone_lvpopper (most := 40) E7.out.e E7.out.l E7.out.i hv E7.out.u (xu_new ⟨uw_zero, uw_zero, uw_zero, uw_zero⟩) HR.out.2.2.1 (by decide) (by decide)
  rw [show ((40 : Nat) : Int) = 40 from rfl] at hA
  have HA := Lib.hid hA
  have HBL := Lib.hid (Nat.le_trans E6.out.b.size hbl)
  clear hA hv hbl hb E6
  go_wp2_with fail
  (with_reducible refine HA.out.mono ?_)
  rintro e w8 ⟨rfl, hp, hf⟩
  have E8 := Lib.hid (E7.out.done HBL.out hp hf (RunM_U HR.out.2.2.1 E7.out.u (xu_new ⟨uw_zero, uw_zero, uw_zero, uw_zero⟩)))
  clear hp hf HA HBL E7
  rw [show ((8 : Nat) : Int) = 8 from rfl, HC.out.1, HC.out.2.1]
  go_wp2_with fail
  (with_reducible refine (lvPop_any 0 _).mono ?_)
  rintro e w9 ⟨b9, rfl, hv, hbl, hb⟩
  have E9 := Lib.hid (E8.out.below hb)
  have hA := alone_lvpopper (most := 40) E9.out.e E9.out.l E9.out.i hv E9.out.u (xu_new ⟨uw_zero, uw_zero, uw_zero, uw_zero⟩) HR.out.2.2.2 (by decide) (by decide)
  rw [show ((40 : Nat) : Int) = 40 from rfl] at hA
  have HA := Lib.hid hA
  have HBL := Lib.hid (Nat.le_trans E8.out.b.size hbl)
  clear hA hv hbl hb E8
  go_wp2_with fail
  (with_reducible refine HA.out.mono ?_)
  rintro e w10 ⟨rfl, hp, hf⟩
  have E10 := Lib.hid (E9.out.done HBL.out hp hf (RunM_U HR.out.2.2.2 E9.out.u (xu_new ⟨uw_zero, uw_zero, uw_zero, uw_zero⟩)))
  clear hp hf HA HBL E9
  rw [show ((14 : Nat) : Int) = 14 from rfl, HC.out.2.2.1, HC.out.2.2.2]
  go_wp2
  go_ret
  exact ⟨rfl, E10.out.b⟩
end Go.Proofs.Ytmoblcfjplolgaa
