/-
  Stage 11: the reference's players as they lie in memory. No function is named.
  The reference's New of a memory. (Taken out of XMemCallsB and XMemCallsD.)
  The reference's Bare.
  The reference's Make.
  Stage 11: the reference's act: a player rests.
-/
import Derived.Test.YtjehiekmlbeaeaaGreatMgAP
import Derived.Test.YtjehiekmlbeaeaaGreatStep8
import Derived.Test.YtjehiekmlbeaeaaGreatMgAI
import Derived.Test.YtjehiekmlbeaeaaGreatMgAA
import Derived.Test.YtjehiekmlbeaeaaGreatMgAW
import Derived.Shelf.Abstract
import Derived.Outline
import Derived.Below
import Derived.Laws.StructEq
import Derived.Deep.OwnRows
import Derived.Maps.AppendAt
import Derived.OwnWalk
import Derived.WalkSpells
import Derived.WalkLawsBesides
import Derived.Lib.Hide
import Derived.IntWalk
import Derived.Test.YtjehiekmlbeaeaaGreatMgBK
import Derived.Test.YtjehiekmlbeaeaaGreatSeq
import Derived.Deep.Cut
import Derived.Deep.CutRange
namespace Go.Proofs.YtjehiekmlbeaeaaGreat
open Go Go.RowKit Go.Shelf
set_option linter.unusedSimpArgs false
set_option linter.unusedVariables false

/-- The frame of a machine. -/
def Mach.fra : Mach → Fra
  | .no => fraP 0 1 0
  | .push f => f
  | .pop f => f
  | .steal f => f
/-- What is known of it. -/
def MF : Mach → Prop
  | .no => True
  | .push f => PushOk f ∧ f.kd = 0
  | .pop f => PopOk f ∧ f.kd = 1
  | .steal f => StealOk f ∧ f.kd = 2
theorem MF.step {s : St} {X : Mach} (hs : s.N) (h : MF X) : (stepM s X).1.N ∧ ((stepM s X).2.2.dn = false → MF (stepM s X).2.1) := by
  cases X with
  | no => exact ⟨hs, fun _ => trivial⟩
  | push f => exact ⟨push_keeps.n s f hs h.1, fun hd => ⟨push_keeps.o s f hs h.1 hd, (push_keeps.q s f).2.2.trans h.2⟩⟩
  | pop f => exact ⟨pop_keeps.n s f hs h.1, fun hd => ⟨pop_keeps.o s f hs h.1 hd, (pop_keeps.q s f).2.2.trans h.2⟩⟩
  | steal f => exact ⟨steal_keeps.n s f hs h.1, fun hd => ⟨steal_keeps.o s f hs h.1 hd, (steal_keeps.q s f).2.2.trans h.2⟩⟩
theorem MF.leaf {s : St} {X : Mach} (h : MF X) (hX : X ≠ .no) : leafS s X.fra = ((stepM s X).1, (stepM s X).2.1.fra, (stepM s X).2.2) := by
  cases X with
  | no => exact absurd rfl hX
  | push f =>
    have h2 : f.kd = 0 := h.2
    show leafS s f = _
    unfold leafS
    rw [if_pos h2]
    rfl
  | pop f =>
    have h2 : f.kd = 1 := h.2
    show leafS s f = _
    unfold leafS
    rw [if_neg (by omega), if_pos h2]
    rfl
  | steal f =>
    have h2 : f.kd = 2 := h.2
    show leafS s f = _
    unfold leafS
    rw [if_neg (by omega), if_neg (by omega), if_pos h2]
    rfl
theorem MF.num {X : Mach} (h : MF X) (hX : X ≠ .no) : bareK X.fra.kd ∧ 0 ≤ X.fra.fu ∧ 0 ≤ X.fra.fv ∧ X.fra.qc ≤ 9223372036854775807 := by
  cases X with
  | no => exact absurd rfl hX
  | push f => exact ⟨.inl h.2, h.1.2.1, h.1.2.2.1, h.1.2.2.2⟩
  | pop f => exact ⟨.inr (.inl h.2), h.1.2.1, h.1.2.2.1, h.1.2.2.2⟩
  | steal f => exact ⟨.inr (.inr (.inl h.2)), h.1.2.1, h.1.2.2.1, h.1.2.2.2⟩
theorem stepM_live {s : St} {X : Mach} (hX : X ≠ .no) : (stepM s X).2.1 ≠ .no ∧ (stepM s X).2.1.kind = X.kind := by
  cases X with
  | no => exact absurd rfl hX
  | push f => exact ⟨(by intro e; cases e), rfl⟩
  | pop f => exact ⟨(by intro e; cases e), rfl⟩
  | steal f => exact ⟨(by intro e; cases e), rfl⟩
/-- The environment's blocks are above. -/
theorem EnvF.low_S {B : Nat} {w : World} {p : Nat} {a : EnvA} {s : St} {es : List Ev} {rs : List Rec} (h : EnvF B w p a s es rs) : ∀ k, k ∈ a.S p → B ≤ k := by
  obtain ⟨ks, _, hrow, _⟩ := h.rc
  intro k hk
  simp only [EnvA.S, List.mem_cons, List.mem_append, Option.mem_toList] at hk
  rcases hk with rfl | rfl | hk | hk
  · exact h.hp
  · exact h.hg
  · exact (World.ownsRow.lt h.ev k hk).1
  · exact (World.ownsRow.lt hrow k hk).1
/-- The reference's machine: its block, its frames' block, how many frames fit. -/
def RM (w : World) (B : Nat) (q : Nat × Nat × Nat) (X : Mach) : Prop := X ≠ .no → Mach1 B w q.1 q.2.1 q.2.2 [] X.fra ∧ MF X
theorem Mach1.off {S : List Nat} {B : Nat} {w w' : World} {m g cap : Nat} {post : List Value} {f : Fra} (h : Mach1 B w m g cap post f) (hf : Fr S w w') (h1 : m ∉ S) (h2 : g ∉ S) : Mach1 B w' m g cap post f :=
  ⟨h.blk.of_same (hf.block m h.blk.lt h1), h.fr.fr hf h2, h.bm, h.bg, h.hc⟩
theorem RM.fr {S : List Nat} {B : Nat} {w w' : World} {q : Nat × Nat × Nat} {X : Mach} (h : RM w B q X) (hf : Fr S w w') (h1 : ∀ cs, X ≠ .no → Blk w q.1 177 cs → q.1 ∉ S) (h2 : ∀ cs, X ≠ .no → Blk w q.2.1 93 cs → q.2.1 ∉ S) : RM w' B q X :=
  fun hX => ⟨(h hX).1.off hf (h1 _ hX (h hX).1.blk) (h2 _ hX (h hX).1.fr.blk), (h hX).2⟩
theorem RM.below {B : Nat} {w w' : World} {q : Nat × Nat × Nat} {X : Mach} (h : RM w B q X) (hb : Below w.heap.size w w') : RM w' B q X := h.fr (Fr.old (S := []) hb) (by simp) (by simp)

/-- The players' block. -/
def PR (w : World) (bp K : Nat) (row : Nat → Nat → Value) : Prop := ∃ cs, Blk w bp 149 cs ∧ ∀ i j, i < K → j < 5 → cs[i * 5 + j]? = some (row i j)
section
variable {w w' : World} {bp K : Nat} {row : Nat → Nat → Value}
theorem PR.cell (h : PR w bp K row) {i : Nat} (hi : i < K) (j : Nat) (hj : j < 5) : w.cell? ⟨bp, i * 5 + j, none⟩ = some (row i j) := by
  obtain ⟨cs, hb, hc⟩ := h
  rw [hb.at_]
  exact hc i j hi hj
theorem PR.free (h : PR w bp K row) (o : Nat) : w.frozen? ⟨bp, o, none⟩ = false := by
  obtain ⟨cs, hb, _⟩ := h
  exact hb.free o
theorem PR.put (h : PR w bp K row) (i j : Nat) (hj : j < 5) (v : Value) : PR (w.setCell ⟨bp, i * 5 + j, none⟩ v) bp K (rowS row i j v) := by
  obtain ⟨cs, hb, hc⟩ := h
  refine ⟨_, hb.put (i * 5 + j) v, fun a b ha hb2 => ?_⟩
  by_cases e : a = i ∧ b = j
  · obtain ⟨rfl, rfl⟩ := e
    rw [rowS_at, Array.getElem?_setIfInBounds_self_of_lt ((Array.getElem?_eq_some_iff.1 (hc a b ha hb2)).1)]
  · rw [rowS_ne _ _ _ _ (by omega), Array.getElem?_setIfInBounds_ne (by omega)]
    exact hc a b ha hb2
theorem PR.fr {S : List Nat} (h : PR w bp K row) (hf : Fr S w w') (hS : bp ∉ S) : PR w' bp K row := by
  obtain ⟨cs, hb, hc⟩ := h
  exact ⟨cs, hb.of_same (hf.block bp hb.lt hS), hc⟩
theorem PR.below (h : PR w bp K row) (hb : Below w.heap.size w w') : PR w' bp K row := h.fr (Fr.old (S := []) hb) (by simp)
theorem PR.apart (h : PR w bp K row) {b : Nat} {t : TypeId} {cs : Array Value} (hb : Blk w b t cs) (ht : 149 ≠ t) : bp ≠ b := by
  obtain ⟨cs0, h0, _⟩ := h
  exact h0.apart hb ht
end
/-- The row of a player. -/
structure PlR (w : World) (B : Nat) (rw_ : Nat → Value) (m : Nat) (p : Plr) : Prop where
  ac : AcR w B (rw_ 0) p.acts
  nt : (∃ a, rw_ 1 = .pointer a) ∧ (∃ z : Int, rw_ 2 = .int .i64 z) ∧ (∃ z : Int, rw_ 3 = .int .i64 z) ∧ ∃ z : Int, rw_ 4 = .int .i64 z
  off : p.x.m = .no → rw_ 4 = .int .i64 (-1)
  on : p.x.m ≠ .no → rw_ 1 = .pointer (some ⟨m, 0, none⟩) ∧ rw_ 2 = .int .i64 p.x.m.kind ∧ (p.x.m.kind = 0 → rw_ 3 = .int .i64 p.x.vl) ∧ rw_ 4 = .int .i64 p.x.sn ∧ 0 ≤ p.x.sn
theorem PlR.fr {w w' : World} {B m : Nat} {r : Nat → Value} {P : Plr} {T : List Nat} (h : PlR w B r m P) (hf : Fr T w w') (hT : ∀ g cur, Blk w g 138 cur → g ∉ T) : PlR w' B r m P := ⟨h.ac.fr hf hT, h.nt, h.off, h.on⟩
/-- The reference's game. -/
structure GR (w0 w : World) (p bp K : Nat) (a : EnvA) (q : Nat → Nat × Nat × Nat) (row : Nat → Nat → Value) (s : St) (P : List Plr) : Prop where
  e : EnvF w0.heap.size w p a s [] []
  n : s.N
  pb : PR w bp K row
  len : P.length = K
  pl : ∀ i, i < K → PlR w w0.heap.size (row i) (q i).1 (P.getD i .no)
  mo : ∀ i, i < K → RM w w0.heap.size (q i) (P.getD i .no).x.m
  ap : ∀ i j, i < K → j < K → i ≠ j → (P.getD i .no).x.m ≠ .no → (P.getD j .no).x.m ≠ .no → (q i).1 ≠ (q j).1 ∧ (q i).2.1 ≠ (q j).2.1
  lb : w0.heap.size ≤ bp
  b : Below w0.heap.size w0 w
section
variable {w0 w w' w1 : World} {p bp K : Nat} {a : EnvA} {q : Nat → Nat × Nat × Nat} {row row' : Nat → Nat → Value} {s s' : St} {P : List Plr}
theorem GR.below (h : GR w0 w p bp K a q row s P) (hb : Below w.heap.size w w') : GR w0 w' p bp K a q row s P :=
  ⟨h.e.below hb, h.n, h.pb.below hb, h.len, fun i hi => (h.pl i hi).fr (Fr.old (S := []) hb) (by simp), fun i hi => (h.mo i hi).below hb, h.ap, h.lb, h.b.trans (hb.mono h.b.size)⟩
/-- A player has changed. -/
theorem GR.one (h : GR w0 w p bp K a q row s P) {i : Nat} {x : Nat × Nat × Nat} {y : Plr} (hi : i < K) (hf : Fr [bp] w w') (hp : PR w' bp K row') (hrow : ∀ b c, b ≠ i → row' b c = row b c) (pl : PlR w' w0.heap.size (row' i) x.1 y) (mo : RM w' w0.heap.size x y.x.m)
    (hx : y.x.m ≠ .no → ∀ j, j < K → j ≠ i → (P.getD j .no).x.m ≠ .no → (q j).1 ≠ x.1 ∧ (q j).2.1 ≠ x.2.1) : GR w0 w' p bp K a (fun b => if b = i then x else q b) row' s (P.set i y) := by
  obtain ⟨cs0, hb0, hc0⟩ := h.pb
  have hl := h.len
  have e1 : (P.set i y).getD i .no = y := set_at _ _ _ _ (by omega)
  have e2 : ∀ b, b ≠ i → (P.set i y).getD b .no = P.getD b .no := fun b hb => set_off _ _ _ _ _ (fun e => hb e.symm)
  have hact : ∀ g cur, Blk w g 138 cur → g ∉ [bp] := fun g cur hg => by simpa using hg.apart hb0 (by decide)
  refine ⟨h.e.other hb0 h.lb (by decide) (by decide) (by decide) (by decide) (by decide) hf, h.n, hp, by rw [List.length_set]; exact hl, fun b hb => ?_, fun b hb => ?_, fun b c hb hc hbc m1 m2 => ?_, h.lb, below_of_fr h.b hf (fun y hy => by simp at hy; rw [hy]; exact h.lb)⟩
  · by_cases e : b = i
    · subst e
      show PlR w' _ (row' b) (if b = b then x else q b).1 _
      rw [if_pos rfl, e1]
      exact pl
    · show PlR w' _ (row' b) (if b = i then x else q b).1 _
      rw [if_neg e, e2 b e, show row' b = row b from funext fun c => hrow b c e]
      exact (h.pl b hb).fr hf hact
  · by_cases e : b = i
    · subst e
      show RM w' _ (if b = b then x else q b) _
      rw [if_pos rfl, e1]
      exact mo
    · show RM w' _ (if b = i then x else q b) _
      rw [if_neg e, e2 b e]
      exact (h.mo b hb).fr hf (fun cs _ hc => by simpa using hc.apart hb0 (by decide)) (fun cs _ hc => by simpa using hc.apart hb0 (by decide))
  · show (if b = i then x else q b).1 ≠ (if c = i then x else q c).1 ∧ (if b = i then x else q b).2.1 ≠ (if c = i then x else q c).2.1
    by_cases eb : b = i
    · subst eb
      have hc' : c ≠ b := fun e => hbc e.symm
      rw [e1] at m1
      rw [e2 c hc'] at m2
      rw [if_pos rfl, if_neg hc']
      obtain ⟨h1, h2⟩ := hx m1 c hc hc' m2
      exact ⟨h1.symm, h2.symm⟩
    · rw [e2 b eb] at m1
      by_cases ec : c = i
      · subst ec
        rw [e1] at m2
        rw [if_pos rfl, if_neg eb]
        exact hx m2 b hb eb m1
      · rw [e2 c ec] at m2
        rw [if_neg eb, if_neg ec]
        exact h.ap b c hb hc hbc m1 m2
/-- What a step of player i's machine leaves alone. -/
theorem GR.keep (h : GR w0 w p bp K a q row s P) {i : Nat} (hi : i < K) (hn : (P.getD i .no).x.m ≠ .no) {b : Nat} {t : TypeId} {cs : Array Value} (hb : Blk w b t cs) (h1 : t ≠ 56) (h2 : t ≠ 50) (h3 : t ≠ 24) (h4 : t ≠ 62)
    (h5 : t ≠ 177 ∨ b ≠ (q i).1) (h6 : t ≠ 93 ∨ b ≠ (q i).2.1) : b ∉ (q i).1 :: (q i).2.1 :: a.S p := by
  obtain ⟨hm, _⟩ := h.mo i hi hn
  simp only [List.mem_cons, not_or]
  refine ⟨?_, ?_, not_in_S h.e hb h1 h2 h3 h4⟩
  · rcases h5 with h5 | h5
    · exact hb.apart hm.blk h5
    · exact h5
  · rcases h6 with h6 | h6
    · exact hb.apart hm.fr.blk h6
    · exact h6
/-- A machine has made a step and is not done. -/
theorem GR.step (h : GR w0 w p bp K a q row s P) {i : Nat} {v : Value} {X : Mach} (hi : i < K) (hn : (P.getD i .no).x.m ≠ .no) (he : EnvF w0.heap.size w' p { a with ev := v } s' [] []) (hN : s'.N) (hf : Fr ((q i).1 :: (q i).2.1 :: a.S p) w w') (hX : X ≠ .no) (hM : RM w' w0.heap.size (q i) X) (hk : X.kind = (P.getD i .no).x.m.kind) :
    GR w0 w' p bp K { a with ev := v } q row s' (P.set i ⟨(P.getD i .no).acts, ⟨X, (P.getD i .no).x.sn, (P.getD i .no).x.vl⟩⟩) := by
  obtain ⟨cs0, hb0, hc0⟩ := h.pb
  have hl := h.len
  have e1 : ∀ y : Plr, (P.set i y).getD i .no = y := fun y => set_at _ _ _ _ (by omega)
  have e2 : ∀ (y : Plr) b, b ≠ i → (P.set i y).getD b .no = P.getD b .no := fun y b hb => set_off _ _ _ _ _ (fun e => hb e.symm)
  have hact : ∀ g cur, Blk w g 138 cur → g ∉ (q i).1 :: (q i).2.1 :: a.S p := fun g cur hg => h.keep hi hn hg (by decide) (by decide) (by decide) (by decide) (.inl (by decide)) (.inl (by decide))
  refine ⟨he, hN, ⟨cs0, hb0.of_same (hf.block bp hb0.lt (h.keep hi hn hb0 (by decide) (by decide) (by decide) (by decide) (.inl (by decide)) (.inl (by decide)))), hc0⟩, by rw [List.length_set]; exact hl, fun b hb => ?_, fun b hb => ?_, fun b c hb hc hbc m1 m2 => ?_, h.lb, ?_⟩
  · have h0 := (h.pl b hb).fr hf hact
    by_cases e : b = i
    · subst e
      rw [e1]
      refine ⟨h0.ac, h0.nt, fun hx => absurd hx hX, fun _ => ?_⟩
      obtain ⟨o1, o2, o3, o4⟩ := h0.on hn
      exact ⟨o1, by show row b 2 = .int .i64 X.kind; rw [hk]; exact o2, fun hz => o3 (hk.symm.trans hz), o4⟩
    · rw [e2 _ b e]
      exact h0
  · by_cases e : b = i
    · subst e
      rw [e1]
      exact hM
    · rw [e2 _ b e]
      exact (h.mo b hb).fr hf (fun cs hx hc => h.keep hi hn hc (by decide) (by decide) (by decide) (by decide) (.inr (h.ap b i hb hi e hx hn).1) (.inl (by decide))) (fun cs hx hc => h.keep hi hn hc (by decide) (by decide) (by decide) (by decide) (.inl (by decide)) (.inr (h.ap b i hb hi e hx hn).2))
  · refine h.ap b c hb hc hbc ?_ ?_
    · by_cases e : b = i
      · rw [e]; exact hn
      · rw [e2 _ b e] at m1; exact m1
    · by_cases e : c = i
      · rw [e]; exact hn
      · rw [e2 _ c e] at m2; exact m2
  · obtain ⟨W0, z0, z1, z2⟩ := he.cf
    refine ⟨by rw [hf.os]; exact h.b.os, by rw [hf.tape]; exact h.b.tape, by rw [hf.output]; exact h.b.output, Nat.le_trans h.b.size hf.size, fun k hk => ?_⟩
    rw [hf.block k (by have := h.b.size; omega) (fun hm => ?_)]
    · exact h.b.block k hk
    · obtain ⟨hm1, _⟩ := h.mo i hi hn
      simp only [List.mem_cons] at hm
      rcases hm with e | e | hm
      · have := hm1.bm; omega
      · have := hm1.bg; omega
      · have := h.e.low_S k hm
        omega
/-- A machine that is done has been taken away from its player. -/
theorem GR.fin (h : GR w0 w p bp K a q row s P) {i : Nat} {v : Value} (hi : i < K) (hn : (P.getD i .no).x.m ≠ .no) (he : EnvF w0.heap.size w1 p { a with ev := v } s' [] []) (hN : s'.N) (hf : Fr ((q i).1 :: (q i).2.1 :: a.S p) w w1)
    (hf2 : Fr [bp] w1 w') (hpb : PR w' bp K (rowS row i 4 (.int .i64 (-1)))) : GR w0 w' p bp K { a with ev := v } q (rowS row i 4 (.int .i64 (-1))) s' (P.set i ⟨(P.getD i .no).acts, ⟨.no, (P.getD i .no).x.sn, (P.getD i .no).x.vl⟩⟩) := by
  obtain ⟨cs0, hb0, hc0⟩ := h.pb
  have hl := h.len
  have hbp1 : Blk w1 bp 149 cs0 := hb0.of_same (hf.block bp hb0.lt (h.keep hi hn hb0 (by decide) (by decide) (by decide) (by decide) (.inl (by decide)) (.inl (by decide))))
  have e1 : ∀ y : Plr, (P.set i y).getD i .no = y := fun y => set_at _ _ _ _ (by omega)
  have e2 : ∀ (y : Plr) b, b ≠ i → (P.set i y).getD b .no = P.getD b .no := fun y b hb => set_off _ _ _ _ _ (fun e => hb e.symm)
  have hact : ∀ g cur, Blk w g 138 cur → g ∉ (q i).1 :: (q i).2.1 :: a.S p := fun g cur hg => h.keep hi hn hg (by decide) (by decide) (by decide) (by decide) (.inl (by decide)) (.inl (by decide))
  have hact2 : ∀ g cur, Blk w1 g 138 cur → g ∉ [bp] := fun g cur hg => by simpa using hg.apart hbp1 (by decide)
  have hrow : ∀ b, b ≠ i → rowS row i 4 (.int .i64 (-1)) b = row b := fun b hb => funext fun c => rowS_ne _ _ _ _ (.inl hb)
  refine ⟨he.other hbp1 h.lb (by decide) (by decide) (by decide) (by decide) (by decide) hf2, hN, hpb, by rw [List.length_set]; exact hl, fun b hb => ?_, fun b hb => ?_, fun b c hb hc hbc m1 m2 => ?_, h.lb, ?_⟩
  · have h0 := ((h.pl b hb).fr hf hact).fr hf2 hact2
    by_cases e : b = i
    · subst e
      rw [e1]
      refine ⟨by rw [rowS_ne _ _ _ _ (.inr (by decide))]; exact h0.ac, ?_, fun _ => rowS_at _ _ _ _, fun hx => absurd rfl hx⟩
      rw [rowS_ne _ _ _ _ (.inr (by decide)), rowS_ne _ _ _ _ (.inr (by decide)), rowS_ne _ _ _ _ (.inr (by decide)), rowS_at]
      exact ⟨h0.nt.1, h0.nt.2.1, h0.nt.2.2.1, _, rfl⟩
    · rw [e2 _ b e, hrow b e]
      exact h0
  · by_cases e : b = i
    · subst e
      rw [e1]
      exact fun hx => absurd rfl hx
    · rw [e2 _ b e]
      have h0 := (h.mo b hb).fr hf (fun cs hx hc => h.keep hi hn hc (by decide) (by decide) (by decide) (by decide) (.inr (h.ap b i hb hi e hx hn).1) (.inl (by decide))) (fun cs hx hc => h.keep hi hn hc (by decide) (by decide) (by decide) (by decide) (.inl (by decide)) (.inr (h.ap b i hb hi e hx hn).2))
      exact h0.fr hf2 (fun cs _ hc => by simpa using hc.apart hbp1 (by decide)) (fun cs _ hc => by simpa using hc.apart hbp1 (by decide))
  · refine h.ap b c hb hc hbc ?_ ?_
    · by_cases e : b = i
      · rw [e]; exact hn
      · rw [e2 _ b e] at m1; exact m1
    · by_cases e : c = i
      · rw [e]; exact hn
      · rw [e2 _ c e] at m2; exact m2
  · have hb1 : Below w0.heap.size w0 w1 := by
      refine ⟨by rw [hf.os]; exact h.b.os, by rw [hf.tape]; exact h.b.tape, by rw [hf.output]; exact h.b.output, Nat.le_trans h.b.size hf.size, fun k hk => ?_⟩
      rw [hf.block k (by have := h.b.size; omega) (fun hm => ?_)]
      · exact h.b.block k hk
      · obtain ⟨hm1, _⟩ := h.mo i hi hn
        simp only [List.mem_cons] at hm
        rcases hm with e | e | hm
        · have := hm1.bm; omega
        · have := hm1.bg; omega
        · have := h.e.low_S k hm
          omega
    exact below_of_fr hb1 hf2 (fun y hy => by simp at hy; rw [hy]; exact h.lb)
end
end Go.Proofs.YtjehiekmlbeaeaaGreat

namespace Go.Proofs.YtjehiekmlbeaeaaGreat
open Go Go.RowKit Go.Shelf
set_option maxRecDepth 100000

/-- What the reference's New gives: a memory by value. -/
def RNew (w : World) (n : Nat) (e : Ending) (w' : World) : Prop :=
  e = .returned (.agg #[.slice (some ⟨w.heap.size + 1, 0, none⟩) n n, .int .i64 0, .int .i64 0, .int .u64 0, .int .u64 0, .int .i64 0]) ∧ Row w' (w.heap.size + 1) n n (List.replicate n 0) ∧ Below w.heap.size w w'

theorem rnew_end (w : World) (n : Nat) (hn : n ≤ 131072) (o : Obj) :
    RNew w n (.returned (.agg #[.slice (some ⟨w.heap.size + 1, 0, none⟩) n n, .int .i64 0, .int .i64 0, .int .u64 0, .int .u64 0, .int .i64 0])) ((w.alloc o).alloc (.cells (madeCells #[.int .u64 0] n) 50)) := by
  refine ⟨rfl, ?_, ((Below.refl _ _).alloc (Nat.le_refl _) _).alloc (by simp) _⟩
  have := made_row (w.alloc o) n hn
  simpa using this

theorem rnew_any (c : Int) (w : World) : Calls Tryz.prog 82 #[.int .i64 c] w (RNew w (sizeS c)) := by
  have hmk := fun (n : Nat) (hn : n ≤ 131072) (W : World) => run_make_row' (P := Tryz.prog) 49 50 (.int .u64 0) 8 Tryz.underlying49 info_u64 rfl .i64 .i64 n (by omega) (by omega) W
  have HE := Lib.hid (rnew_end w)
  by_cases h1 : c ≤ 0
  · have e : sizeS c = 0 := by unfold sizeS; rw [if_pos (by omega)]
    rw [e]
    clear e
    have hk := hmk 0 (by omega)
    rw [show ((0 : Nat) : Int) = 0 from rfl] at hk
    clear hmk
    have m1 : min c 131072 = c := by omega
    have m2 : max 0 c = 0 := by omega
    go_enter Tryz.func82, Tryz.ntmps82
    go_wp2
    exact bodyPost_ret (v := .agg #[.slice (some ⟨w.heap.size + 1, 0, none⟩) 0 0, .int .i64 0, .int .i64 0, .int .u64 0, .int .u64 0, .int .i64 0]) (by simp [results, Tryz.results82, go_sem]) rfl (HE.out 0 (by omega) _)
  · by_cases h2 : c ≤ 131072
    · obtain ⟨n, rfl⟩ : ∃ n : Nat, c = (n : Int) := ⟨c.toNat, by omega⟩
      have e : sizeS n = n := by unfold sizeS; rw [if_neg h1, if_pos h2]; omega
      rw [e]
      clear e
      have hk := hmk n (by omega)
      clear hmk
      have m1 : min (n : Int) 131072 = (n : Int) := by omega
      have m2 : max 0 (n : Int) = (n : Int) := by omega
      go_enter Tryz.func82, Tryz.ntmps82
      go_wp2
      exact bodyPost_ret (v := .agg #[.slice (some ⟨w.heap.size + 1, 0, none⟩) n n, .int .i64 0, .int .i64 0, .int .u64 0, .int .u64 0, .int .i64 0]) (by simp [results, Tryz.results82, go_sem]) rfl (HE.out n (by omega) _)
    · have e : sizeS c = 131072 := by unfold sizeS; rw [if_neg h1, if_neg h2]
      rw [e]
      clear e
      have hk := hmk 131072 (by omega)
      rw [show ((131072 : Nat) : Int) = 131072 from rfl] at hk
      clear hmk
      have m1 : min c 131072 = 131072 := by omega
      have m2 : max (0 : Int) 131072 = 131072 := by omega
      go_enter Tryz.func82, Tryz.ntmps82
      go_wp2
      exact bodyPost_ret (v := .agg #[.slice (some ⟨w.heap.size + 1, 0, none⟩) 131072 131072, .int .i64 0, .int .i64 0, .int .u64 0, .int .u64 0, .int .i64 0]) (by simp [results, Tryz.results82, go_sem]) rfl (HE.out 131072 (by omega) _)
end Go.Proofs.YtjehiekmlbeaeaaGreat

namespace Go.Proofs.YtjehiekmlbeaeaaGreat
open Go Go.RowKit
set_option linter.unusedSimpArgs false

/-- What a bare environment holds besides its memory. -/
abbrev bareC : Cfg := ⟨0, 0, 0, 0, 0, 0, 0, 0, 0, [], []⟩
abbrev bareA (g cap : Nat) : EnvA := ⟨bareC, none, 0, 0, none, 0, 0, g, cap, 0, 0, .slice none 0 0, .slice none 0 0⟩
/-- What Bare gives. -/
def Bared (n : Nat) (w : World) (e : Ending) (w' : World) : Prop := ∃ p g cap, e = .returned (.pointer (some ⟨p, 0, none⟩)) ∧ EnvF w.heap.size w' p (bareA g cap) (St.new n) [] [] ∧ Below w.heap.size w w'

set_option maxHeartbeats 2000000 in
theorem bare_any (c : Int) (w : World) : Calls Tryz.prog 66 #[.int .i64 c] w (Bared (sizeS c) w) := by
  have hn : sizeS c ≤ 131072 := by unfold sizeS; split <;> (try split) <;> omega
  have HN := Lib.hid hn
  clear hn
  go_enter Tryz.func66, Tryz.ntmps66
  go_wp2_with fail
  (with_reducible refine (rnew_any c _).mono ?_)
  rintro e w1 ⟨rfl, hrow, hb⟩
  generalize sizeS c = n at *
  have HR := Lib.hid hrow
  have HB := Lib.hid hb
  clear hrow hb
  go_wp2
  go_ret
  have hb2 := below_one w1 (.cells (ecells (bareA (w.heap.size + 1) n) (St.new n)) 56)
  have hw : (St.new n).X.length = n := by simp [St.new]
  have hs := HB.out.size
  have hlt := HR.out.lt
  refine ⟨w1.heap.size, w.heap.size + 1, n, rfl, ⟨⟨?_, ?_, by rw [hw]; exact HN.out⟩, World.ownsRow_nil _ _ _ _, ⟨[], rfl, World.ownsRow_nil _ _ _ _, fun i hi => by simp at hi⟩, ⟨w, rfl, ⟨prgs_nil _ _ _, tris_nil _ _ _⟩, ?_⟩, by omega, by show w.heap.size ≤ w.heap.size + 1; omega⟩, ?_⟩
  · have := Blk.made w1 56 (ecells (bareA (w.heap.size + 1) n) (St.new n))
    simpa [ecells, St.new] using this
  · have hr := HR.out.of_same (w' := w1.alloc (.cells (ecells (bareA (w.heap.size + 1) n) (St.new n)) 56)) (Below.heap_alloc w1 _ _ hlt)
    rw [hw]
    simpa [ecells, St.new] using hr
  · have := HB.out.trans (hb2.mono hs)
    simpa [ecells, St.new] using this
  · have := HB.out.trans (hb2.mono hs)
    simpa [ecells, St.new] using this
end Go.Proofs.YtjehiekmlbeaeaaGreat

namespace Go.Proofs.YtjehiekmlbeaeaaGreat
open Go Go.RowKit
set_option linter.unusedSimpArgs false

/-- What Make gives. -/
def Made (f : Fra) (w : World) (e : Ending) (w' : World) : Prop := ∃ m g cap, e = .returned (.pointer (some ⟨m, 0, none⟩)) ∧ Mach1 w.heap.size w' m g cap [] { f with ln := 1 } ∧ Below w.heap.size w w'
set_option maxHeartbeats 2000000 in
theorem make_any (f : Fra) (w : World) (hk : (f.kd == 22) = false) : Calls Tryz.prog 35 #[.agg (fcells f).toArray] w (Made f w) := by
  have hX := Blk.made w 93 (fcells f).toArray
  have HX := Lib.hid hX
  have HB := Lib.hid (below_one w (.cells (fcells f).toArray 93))
  have x0 := hX.at_ 0
  have x1 := hX.at_ 1
  have x2 := hX.at_ 2
  have x3 := hX.at_ 3
  have x4 := hX.at_ 4
  have x5 := hX.at_ 5
  have x6 := hX.at_ 6
  have x7 := hX.at_ 7
  have x8 := hX.at_ 8
  have x9 := hX.at_ 9
  have x10 := hX.at_ 10
  have x11 := hX.at_ 11
  have x12 := hX.at_ 12
  have x13 := hX.at_ 13
  have x14 := hX.at_ 14
  have x15 := hX.at_ 15
  have x16 := hX.at_ 16
  have x17 := hX.at_ 17
  have y1 := hX.free 1
  simp only [List.getElem?_toArray, List.getElem?_cons_zero, List.getElem?_cons_succ] at x0 x1 x2 x3 x4 x5 x6 x7 x8 x9 x10 x11 x12 x13 x14 x15 x16 x17
  clear hX
  go_enter Tryz.func35, Tryz.ntmps35
  go_upto_region 1 with fail
  generalize w.alloc (.cells (fcells f).toArray 93) = W at *
  go_wp2
  go_ret
  have hs1 := HB.out.size
  have hB2 := HB.out.setCell (show w.heap.size ≤ (⟨w.heap.size, 1, none⟩ : Addr).block from Nat.le_refl _) (.int .i64 1)
  have hz : (W.setCell ⟨w.heap.size, 1, none⟩ (.int .i64 1)).heap.size = W.heap.size := by simp [World.setCell]
  have b1 := below_one (W.setCell ⟨w.heap.size, 1, none⟩ (.int .i64 1)) (.cells (fcells { f with ln := 1 }).toArray 93)
  have b2 := below_one ((W.setCell ⟨w.heap.size, 1, none⟩ (.int .i64 1)).alloc (.cells (fcells { f with ln := 1 }).toArray 93)) (.cells (mcells W.heap.size 1 1 false 0 0) 177)
  have hF := Blk.made (W.setCell ⟨w.heap.size, 1, none⟩ (.int .i64 1)) 93 (fcells { f with ln := 1 }).toArray
  have hM := Blk.made ((W.setCell ⟨w.heap.size, 1, none⟩ (.int .i64 1)).alloc (.cells (fcells { f with ln := 1 }).toArray 93)) 177 (mcells W.heap.size 1 1 false 0 0)
  rw [hz] at hF
  have hz2 : ((W.setCell ⟨w.heap.size, 1, none⟩ (.int .i64 1)).alloc (.cells (fcells { f with ln := 1 }).toArray 93)).heap.size = W.heap.size + 1 := by simp [hz]
  have hb3 := b2
  rw [hz2] at hM b2
  have hsz := b1.size
  refine ⟨_, W.heap.size, 1, rfl, ⟨hM, ⟨?_, rfl⟩, ?_, by omega, by omega⟩, (hB2.trans (b1.mono (by omega))).trans (b2.mono (by omega))⟩
  · have := hF.below hb3
    simpa using this
  · omega
end Go.Proofs.YtjehiekmlbeaeaaGreat

namespace Go.Proofs.YtjehiekmlbeaeaaGreat
open Go Go.RowKit Go.Shelf
set_option linter.unusedSimpArgs false
set_option linter.unusedVariables false
abbrev op0 : Array Value := #[.int .i64 0, .int .i64 0, .int .i64 0, .int .i64 0, .int .i64 0, .int .i64 0]
theorem below_rowR {w W : World} {rb : Nat} (hb : Below w.heap.size w W) (hr : w.heap.size ≤ rb) (cs : Array Value) : Below w.heap.size w (W.setRow rb cs) :=
  ⟨hb.os, hb.tape, hb.output, by rw [size_setRow]; exact hb.size, fun k hk => (setRow_other W rb k cs (by omega)).trans (hb.block k hk)⟩
set_option maxRecDepth 100000 in
set_option maxHeartbeats 4000000 in
/-- Nothing to do. -/
theorem ract_rest {w : World} {p bp K i : Nat} {row : Nat → Nat → Value} {C n : Int} {ad : Option Addr} {c : Nat} (hp : PR w bp K row) (hi : i < K) (h0 : row i 0 = .slice ad 0 c) (h4 : row i 4 = .int .i64 (-1)) :
    Calls Tryz.prog 68 #[.pointer (some ⟨p, 0, none⟩), qv 0 1 2 C, .pointer (some ⟨bp, i * 5, none⟩), .int .i64 i, .int .i64 n] w fun e w' => e = .returned (.tuple #[.agg op0, .bool false]) ∧ Below w.heap.size w w' := by
  have HB := Lib.hid ((below_one w (.cells (qcells 0 1 2 C) 91)).trans ((below_one (w.alloc (.cells (qcells 0 1 2 C) 91)) (.cells op0 80)).mono (by simp)))
  have hp2 := hp.below HB.out
  have HO2 := Lib.hid (Blk.made (w.alloc (.cells (qcells 0 1 2 C) 91)) 80 op0)
  have c0 := hp2.cell hi 0 (by omega)
  have c4 := hp2.cell hi 4 (by omega)
  rw [h0, Nat.add_zero] at c0
  rw [h4] at c4
  rw [show (w.alloc (.cells (qcells 0 1 2 C) 91)).heap.size = w.heap.size + 1 from by simp] at HO2
  generalize i * 5 = o at *
  clear hp h0 h4 hp2
  go_enter Tryz.func68, Tryz.ntmps68
  go_upto_region 1 with fail
  obtain ⟨rb, hrb⟩ : ∃ rb, w.heap.size + 1 = rb := ⟨_, rfl⟩
  rw [hrb] at HO2 ⊢
  replace hrb : w.heap.size ≤ rb := by omega
  generalize (w.alloc (.cells (qcells 0 1 2 C) 91)).alloc (.cells op0 80) = W2 at *
  go_upto_region 3 with fail
  clear c0 c4
  go_wp2_with (refine wpList_store_rowTo rfl 80 (.tmp 10) (.tmp 24) rfl rfl rb op0 (by kernel_rfl) (by kernel_rfl) 80 op0 HO2.out (by kernel_rfl) rfl (by kernel_rfl) ?_)
  have hX : Blk (W2.setRow rb op0) rb 80 op0 := setRow_heap W2 rb op0 _ 80 (0, 0) HO2.out
  refine bodyPost_ret (results_cell_tmp (P := Tryz.prog) Tryz.results68 _ _ rb 80 _ (0, 0) _ _ rfl rfl hX Tryz.underlying80 rfl (by kernel_rfl)) rfl ?_
  exact ⟨rfl, below_rowR HB.out hrb op0⟩
end Go.Proofs.YtjehiekmlbeaeaaGreat
