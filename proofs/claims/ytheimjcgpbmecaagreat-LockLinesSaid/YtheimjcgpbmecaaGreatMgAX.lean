/-
  What both Decodes keep: the reader's place, the configuration under way, its rows.
  Contracts of slices.Clone and of Clone. (Written by wip/gen_cfclone.py.)
-/
import Derived.Test.YtheimjcgpbmecaaGreatMgAW
import Derived.Deep.RegionHeld
import Derived.Lib.SliceRun
namespace Go.Proofs.YtheimjcgpbmecaaGreat
open Go Go.RowKit

theorem fr_row {w w' : World} {row : Option Nat} (hg : w.grownBy w' row) : Fr row.toList w w' :=
  ⟨hg.os, hg.tape, hg.output, hg.size, fun k hk hn => hg.block k hk (fun e => hn (by simp [← e]))⟩
theorem row_mem {row : Option Nat} {s : Nat} (h : s ∈ row.toList) : row = some s := by simpa using h

theorem OwnT.grown {w w' : World} {base : Nat} {t t' : TypeId} {v v' : Value} {l l' : List T3} (h : OwnT w base t v l) (h' : OwnT w base t' v' l') (hne : t ≠ t') (hg : w.grownBy w' v'.ownBlock) : OwnT w' base t v l := by
  refine ⟨h.1, ?_⟩
  rcases h.2 with h4 | ⟨g, cap, cur, rfl, h4, hgg, rest⟩
  · exact .inl h4
  · refine .inr ⟨g, cap, cur, rfl, h4, (hg.block g (Array.getElem?_eq_some_iff.1 hgg).1 (fun e => ?_)).trans hgg, rest⟩
    rcases h'.2 with ⟨rfl, _⟩ | ⟨g2, cap2, cur2, rfl, _, hg2, _⟩
    · simp [Value.ownBlock] at e
    · simp [Value.ownBlock] at e
      subst e
      rw [hgg] at hg2
      simp only [Option.some.injEq, Obj.cells.injEq] at hg2
      exact hne hg2.2.1
theorem OwnP.grown {w w' : World} {base : Nat} {v v' : Value} {ps : List (List T3)} {l' : List T3} (h : OwnP w base v ps) (h' : OwnT w base 123 v' l') (hg : w.grownBy w' v'.ownBlock) : OwnP w' base v ps := by
  obtain ⟨vs, h1, h2, h3⟩ := h
  refine ⟨vs, h1, ⟨h2.1, ?_⟩, fun i hi => (h3 i hi).grown h' (by decide) hg⟩
  rcases h2.2 with h4 | ⟨g, cap, cur, rfl, h4, hgg, rest⟩
  · exact .inl h4
  · refine .inr ⟨g, cap, cur, rfl, h4, (hg.block g (Array.getElem?_eq_some_iff.1 hgg).1 (fun e => ?_)).trans hgg, rest⟩
    rcases h'.2 with ⟨rfl, _⟩ | ⟨g2, cap2, cur2, rfl, _, hg2, _⟩
    · simp [Value.ownBlock] at e
    · simp [Value.ownBlock] at e
      subst e
      rw [hgg] at hg2
      cases hg2

/-- The cells of the configuration under way. -/
abbrev ncells (f : Nat → Int) (pv sv : Value) : Array Value :=
  #[.int .i64 (1 + f 0 % 4), .int .i64 (nLe f), .int .i64 (1 + f 2 % min 3 (nLe f)), .int .i64 (1 + f 3 % 12), .int .i64 (nDe f), .int .i64 (1 + f 5 % 4), .int .i64 (1 + f 6 % nDe f), .int .i64 (f 7 % 6), .int .i64 (1 + f 8 % 8), pv, sv]

/-- What is known between two steps of a Decode: w2 is the world in which the configuration was begun. -/
structure DecSt (Rd : World → Nat → Nat → List Int → Nat → Prop) (w2 : World) (B g cb : Nat) (zs : List Int) (f : Nat → Int) (pos : Nat) (pv sv : Value) (ps : List (List T3)) (ss : List T3) (w : World) : Prop where
  rd : Rd w B g zs pos
  fr : Fr [g, cb] w2 w
  c : Blk w cb 29 (ncells f pv sv)
  pr : OwnP w w2.heap.size pv ps
  su : OwnT w w2.heap.size 123 sv ss
  o1 : B ≤ g
  o2 : g < cb
  o3 : cb < w2.heap.size

section
variable {Rd : World → Nat → Nat → List Int → Nat → Prop} {w2 w w' : World} {B g cb : Nat} {zs : List Int} {f : Nat → Int} {pos pos' : Nat} {pv sv : Value} {ps : List (List T3)} {ss : List T3}

theorem DecSt.lt (h : DecSt Rd w2 B g cb zs f pos pv sv ps ss w) : w2.heap.size ≤ w.heap.size := h.fr.size
theorem DecSt.read (h : DecSt Rd w2 B g cb zs f pos pv sv ps ss w) (hr : Rd w' B g zs pos') (hf : Fr [g] w w') : DecSt Rd w2 B g cb zs f pos' pv sv ps ss w' := by
  have h1 := h.o1
  have h2 := h.o2
  have h3 := h.o3
  exact ⟨hr, h.fr.trans (hf.mono (fun k hk => by simp at hk; simp [hk])), h.c.of_same (hf.block _ h.c.lt (by simp; omega)), h.pr.fr hf (fun s hs => by simp at hs; omega), h.su.fr hf (fun s hs => by simp at hs; omega), h1, h2, h3⟩
theorem DecSt.keep (h : DecSt Rd w2 B g cb zs f pos pv sv ps ss w) (hst : Stable Rd) (hf : Fr [] w w') : DecSt Rd w2 B g cb zs f pos pv sv ps ss w' :=
  ⟨hst h.rd hf (fun s hs => by simp at hs), h.fr.trans (hf.mono (fun k hk => by simp at hk)), h.c.of_same (hf.block _ h.c.lt (by simp)), h.pr.fr hf (fun s hs => by simp at hs), h.su.fr hf (fun s hs => by simp at hs), h.o1, h.o2, h.o3⟩
theorem DecSt.alloc (h : DecSt Rd w2 B g cb zs f pos pv sv ps ss w) (hst : Stable Rd) (o : Obj) : DecSt Rd w2 B g cb zs f pos pv sv ps ss (w.alloc o) := h.keep hst ((Fr.refl [] w).alloc o)
/-- What the walk needs behind an append to a row of the configuration. -/
theorem DecSt.at_ (h : DecSt Rd w2 B g cb zs f pos pv sv ps ss w) {row : Option Nat} (hr : ∀ k, row = some k → w2.heap.size ≤ k) (hg : w.grownBy w' row) : Blk w' cb 29 (ncells f pv sv) := by
  have h3 := h.o3
  exact h.c.grown hg (fun e => by have := hr _ e; omega)
/-- A program is appended and the row stored. -/
theorem DecSt.addP (h : DecSt Rd w2 B g cb zs f pos pv sv ps [] w) (hsv : sv = .slice none 0 0) (hst : Stable Rd) {v' : Value} {l : List T3} (hown : OwnP w' w2.heap.size v' (ps ++ [l])) (hg : w.grownBy w' pv.ownBlock) :
    DecSt Rd w2 B g cb zs f pos v' sv (ps ++ [l]) [] (w'.setCell ⟨cb, 9, none⟩ v') := by
  have h1 := h.o1
  have h2 := h.o2
  have h3 := h.o3
  have hrow : ∀ s, s ∈ pv.ownBlock.toList → w2.heap.size ≤ s := fun s hs => (h.pr.lt s (row_mem hs)).1
  have hS : Fr [cb] w' (w'.setCell ⟨cb, 9, none⟩ v') := (Fr.refl [cb] w').setCell (p := ⟨cb, 9, none⟩) (.inl (List.mem_singleton.2 rfl)) v'
  have hC := (h.at_ (fun k hk => (h.pr.lt k hk).1) hg).put 9 v'
  simp only [List.setIfInBounds_toArray, List.set_cons_zero, List.set_cons_succ] at hC
  subst hsv
  refine ⟨hst (hst h.rd (fr_row hg) (fun s hs => by have := hrow s hs; omega)) hS (fun s hs => by simp at hs; omega), ?_, hC, hown.fr hS (fun s hs => by simp at hs; omega), OwnT.nil _ _ _, h1, h2, h3⟩
  exact (fr_grown h.fr (fun k hk => (h.pr.lt k hk).1) hg).setCell (p := ⟨cb, 9, none⟩) (.inl (by simp)) v'
/-- A submission is appended and the row stored. -/
theorem DecSt.addS (h : DecSt Rd w2 B g cb zs f pos pv sv ps ss w) (hst : Stable Rd) {v' : Value} {e : T3} (hown : OwnT w' w2.heap.size 123 v' (ss ++ [e])) (hg : w.grownBy w' sv.ownBlock) :
    DecSt Rd w2 B g cb zs f pos pv v' ps (ss ++ [e]) (w'.setCell ⟨cb, 10, none⟩ v') := by
  have h1 := h.o1
  have h2 := h.o2
  have h3 := h.o3
  have hrow : ∀ s, s ∈ sv.ownBlock.toList → w2.heap.size ≤ s := fun s hs => (h.su.lt s (row_mem hs)).1
  have hS : Fr [cb] w' (w'.setCell ⟨cb, 10, none⟩ v') := (Fr.refl [cb] w').setCell (p := ⟨cb, 10, none⟩) (.inl (List.mem_singleton.2 rfl)) v'
  have hC := (h.at_ (fun k hk => (h.su.lt k hk).1) hg).put 10 v'
  simp only [List.setIfInBounds_toArray, List.set_cons_zero, List.set_cons_succ] at hC
  refine ⟨hst (hst h.rd (fr_row hg) (fun s hs => by have := hrow s hs; omega)) hS (fun s hs => by simp at hs; omega), ?_, hC, (h.pr.grown h.su hg).fr hS (fun s hs => by simp at hs; omega), hown.fr hS (fun s hs => by simp at hs; omega), h1, h2, h3⟩
  exact (fr_grown h.fr (fun k hk => (h.su.lt k hk).1) hg).setCell (p := ⟨cb, 10, none⟩) (.inl (by simp)) v'

/-- The same within a program: p is the row under way. -/
structure InSt (Rd : World → Nat → Nat → List Int → Nat → Prop) (w4 : World) (B g : Nat) (zs : List Int) (pos : Nat) (p : Value) (l : List T3) (w : World) : Prop where
  rd : Rd w B g zs pos
  fr : Fr [g] w4 w
  p : OwnT w w4.heap.size 66 p l
variable {w4 : World} {p : Value} {l : List T3}
theorem InSt.read (h : InSt Rd w4 B g zs pos p l w) (hlt : g < w4.heap.size) (hr : Rd w' B g zs pos') (hf : Fr [g] w w') : InSt Rd w4 B g zs pos' p l w' :=
  ⟨hr, h.fr.trans hf, h.p.fr hf (fun s hs => by simp at hs; omega)⟩
theorem InSt.keep (h : InSt Rd w4 B g zs pos p l w) (hst : Stable Rd) (hf : Fr [] w w') : InSt Rd w4 B g zs pos p l w' :=
  ⟨hst h.rd hf (fun s hs => by simp at hs), h.fr.trans (hf.mono (fun k hk => by simp at hk)), h.p.fr hf (fun s hs => by simp at hs)⟩
theorem InSt.alloc (h : InSt Rd w4 B g zs pos p l w) (hst : Stable Rd) (o : Obj) : InSt Rd w4 B g zs pos p l (w.alloc o) := h.keep hst ((Fr.refl [] w).alloc o)
theorem InSt.add (h : InSt Rd w4 B g zs pos p l w) (hst : Stable Rd) (hB : B ≤ g) (hlt : g < w4.heap.size) {v' : Value} {e : T3} (hown : OwnT w' w4.heap.size 66 v' (l ++ [e])) (hg : w.grownBy w' p.ownBlock) : InSt Rd w4 B g zs pos v' (l ++ [e]) w' :=
  ⟨hst h.rd (fr_row hg) (fun s hs => by have := (h.p.lt s (row_mem hs)).1; omega), fr_grown h.fr (fun k hk => (h.p.lt k hk).1) hg, hown⟩
end

/-- What the loop over the programs keeps. -/
def DecR (Rd : World → Nat → Nat → List Int → Nat → Prop) (w2 : World) (B g cb : Nat) (zs : List Int) (f : Nat → Int) (n : Int) (N : Nat) (i : Value) (w : World) : Prop :=
  ∃ (k : Nat) (pv : Value), k ≤ N ∧ i = .int .i64 k ∧ DecSt Rd w2 B g cb zs f (rdPs f n (nLe f) k 10).2 pv (.slice none 0 0) (rdPs f n (nLe f) k 10).1 [] w
/-- What the loop over the instructions keeps: j of them are read (up), or left (down). -/
def InR (Rd : World → Nat → Nat → List Int → Nat → Prop) (w4 : World) (B g : Nat) (zs : List Int) (f : Nat → Int) (n : Int) (pos M : Nat) (p i : Value) (w : World) : Prop :=
  ∃ j : Nat, j ≤ M ∧ i = .int .i64 j ∧ InSt Rd w4 B g zs (rdIs f n (nLe f) j pos).2 p (rdIs f n (nLe f) j pos).1 w
def InD (Rd : World → Nat → Nat → List Int → Nat → Prop) (w4 : World) (B g : Nat) (zs : List Int) (f : Nat → Int) (n : Int) (pos M : Nat) (p i : Value) (w : World) : Prop :=
  ∃ j m : Nat, j + m = M ∧ i = .int .i64 (m : Int) ∧ InSt Rd w4 B g zs (rdIs f n (nLe f) j pos).2 p (rdIs f n (nLe f) j pos).1 w
/-- What the loop over the submissions keeps. -/
def DecS (Rd : World → Nat → Nat → List Int → Nat → Prop) (w2 : World) (B g cb : Nat) (zs : List Int) (f : Nat → Int) (n : Int) (pos M : Nat) (pv : Value) (ps : List (List T3)) (i : Value) (w : World) : Prop :=
  ∃ (k : Nat) (sv : Value), k ≤ M ∧ i = .int .i64 k ∧ DecSt Rd w2 B g cb zs f (pos + 3 * k) pv sv ps (rdSs f n (nLe f) k pos) w
def DecD (Rd : World → Nat → Nat → List Int → Nat → Prop) (w2 : World) (B g cb : Nat) (zs : List Int) (f : Nat → Int) (n : Int) (pos M : Nat) (pv : Value) (ps : List (List T3)) (i : Value) (w : World) : Prop :=
  ∃ (k m : Nat) (sv : Value), k + m = M ∧ i = .int .i64 (m : Int) ∧ DecSt Rd w2 B g cb zs f (pos + 3 * k) pv sv ps (rdSs f n (nLe f) k pos) w

/-- The value v is a configuration in memory of the call's own (from block B on) that reads as c. -/
def OwnCfg (w : World) (B : Nat) (v : Value) (c : Cfg) : Prop :=
  ∃ pa pn pc sa sn sc, v = cv c pa pn pc sa sn sc ∧ OwnP w B (.slice pa pn pc) c.pr ∧ OwnT w B 123 (.slice sa sn sc) c.su ∧ Lists w B c pa pn sa sn
theorem OwnCfg.isCfg {w : World} {B : Nat} {v : Value} {c : Cfg} (h : OwnCfg w B v c) : IsCfg w B v c := by
  obtain ⟨pa, pn, pc, sa, sn, sc, e, _, _, hl⟩ := h
  exact ⟨pa, pn, pc, sa, sn, sc, e, hl⟩
/-- What a Decode gives: a configuration in new memory. -/
def Decoded (zs : List Int) (w : World) (e : Ending) (w' : World) : Prop := ∃ v, e = .returned v ∧ OwnCfg w' w.heap.size v (decC (strm zs)) ∧ Below w.heap.size w w'
theorem OwnP.mono {w : World} {base base' : Nat} {v : Value} {ps : List (List T3)} (h : OwnP w base v ps) (hb : base' ≤ base) : OwnP w base' v ps := by
  obtain ⟨vs, h1, h2, h3⟩ := h
  refine ⟨vs, h1, ⟨h2.1, ?_⟩, fun i hi => (h3 i hi).mono hb⟩
  rcases h2.2 with h4 | ⟨g, cap, cur, rfl, h4, rest⟩
  · exact .inl h4
  · exact .inr ⟨g, cap, cur, rfl, Nat.le_trans hb h4, rest⟩

/-- The end: the configuration is copied into the result. -/
theorem DecSt.done {Rd : World → Nat → Nat → List Int → Nat → Prop} {w0 w2 w : World} {B g cb pos : Nat} {zs : List Int} {pv sv : Value} (h : DecSt Rd w2 B g cb zs (strm zs) pos pv sv (qPr (strm zs)).1 (decC (strm zs)).su w)
    (hf : Fr [] w0 w2) (hg : w0.heap.size < g) {w' : World}
    (hF : Fr [w0.heap.size] w w') : OwnCfg w' w0.heap.size (.agg (ncells (strm zs) pv sv)) (decC (strm zs)) ∧ Below w0.heap.size w0 w' := by
  have h2 := h.o2
  have h3 := h.o3
  have hs := hf.size
  have hop := h.pr.fr hF (fun s hs => by simp at hs; omega)
  have hos := h.su.fr hF (fun s hs => by simp at hs; omega)
  obtain ⟨pa, pc, rfl, hp, _⟩ := hop.form
  obtain ⟨sa, sc, rfl, hss, _⟩ := hos.form
  refine ⟨⟨pa, _, pc, sa, _, sc, rfl, hop.mono (by omega), hos.mono (by omega), hp.mono (by omega), hss.mono (by omega)⟩, fr_below ?_⟩
  exact (hf.drop h.fr (fun x hx => by simp at hx; omega)).drop hF (fun x hx => by simp at hx; omega)
theorem DecSt.res {Rd : World → Nat → Nat → List Int → Nat → Prop} {w0 w2 w : World} {B g cb pos : Nat} {zs : List Int} {f : Nat → Int} {pv sv : Value} {ps : List (List T3)} {ss : List T3} (h : DecSt Rd w2 B g cb zs f pos pv sv ps ss w)
    (hg : w0.heap.size < g) (hd : Blk w2 w0.heap.size 29 zero11) : Blk w w0.heap.size 29 zero11 := by
  have h2 := h.o2
  exact hd.of_same (h.fr.block _ hd.lt (by simp; omega))
end Go.Proofs.YtheimjcgpbmecaaGreat

namespace Go.Proofs.YtheimjcgpbmecaaGreat
open Go Go.RowKit
set_option linter.unusedSimpArgs false

theorem Tris.cellsT {w : World} {B : Nat} {x : Addr} {n : Nat} {l : List T3} (h : Tris w B (some x) n l) : ∀ j u, (cellsT l)[j]? = some u → w.cell? (x.add j) = some u := by
  intro j u hu
  have hj : j < l.length * 3 := by
    rw [← cellsT_length]
    exact (List.getElem?_eq_some_iff.1 hu).1
  obtain ⟨y, e, _, _, h0, h1, h2⟩ := h.2.2 (j / 3) (by rw [← h.1]; omega)
  cases e
  obtain ⟨c0, c1, c2⟩ := cellsT_at l (j / 3) (by omega)
  have hp : j % 3 = 0 ∨ j % 3 = 1 ∨ j % 3 = 2 := by omega
  rcases hp with hp | hp | hp
  · rw [show j / 3 * 3 = j by omega] at h0 c0
    rw [h0, ← c0, hu]
  · rw [show j / 3 * 3 + 1 = j by omega] at h1 c1
    rw [h1, ← c1, hu]
  · rw [show j / 3 * 3 + 2 = j by omega] at h2 c2
    rw [h2, ← c2, hu]
/-- An append of a whole list of triples onto an empty row of the call's own. -/
theorem wpList_appL {w : World} {ops : Array Oper} {rest : List Oper} {o : Oper} {a : Act} {Q : Exit → Act → World → Prop} {t tt : TypeId} (hu : Tryz.prog.underlying tt = some (.slice t))
    (hinfo : (Tryz.prog.info? t).map (fun i => (i.zero, i.size, i.bytes)) = some (some (.agg #[.int .i64 0, .int .i64 0, .int .i64 0]), 3, 24)) (hgd : o.guard = none) (s x : Operand)
    (ho : o.op = .call { callee := .builtin .append, args := #[s, x], argTypes := #[tt, tt] })
    {base B : Nat} {v : Value} (hs : a.eval s = v) (hown : OwnT w base t v []) {ad : Addr} {m c : Nat} {l : List T3} (hx : a.eval x = .slice (some ad) m c) (h3 : Tris w B (some ad) m l) (hn : m ≤ 1000000) (hb : base ≤ w.heap.size)
    (h : ∀ v' w', OwnT w' base t v' l → w.grownBy w' v.ownBlock → wpList Tryz.prog ops Q rest (a.put o.dst v') w') :
    wpList Tryz.prog ops Q (o :: rest) a w := by
  obtain ⟨i0, hi, hz0, hz1, hz2⟩ := info_parts hinfo
  refine wpList_append_own_at w hgd s x tt ho base t i0 _ 3 24 hu hi hz0 hz1 hz2 rfl (by omega) v 0 [] hs hown ad m c (cellsT l) hx (by rw [cellsT_length, h3.1]) h3.cellsT (cellsT_one l) (by unfold maxLen; omega) (by omega) hb ?_
  intro v' w' h1 h2 _ _
  refine h v' w' ?_ h2
  unfold OwnT
  rw [h3.1]
  simpa using h1
/-- What slices.Clone gives of a list of triples. -/
def ClonedT (t : TypeId) (l : List T3) (w : World) (e : Ending) (w' : World) : Prop := ∃ v, e = .returned v ∧ OwnT w' w.heap.size t v l ∧ Below w.heap.size w w'

set_option maxHeartbeats 1000000 in
theorem clonei_any {w : World} {B : Nat} {a : Option Addr} {n : Nat} {l : List T3} (h : Tris w B a n l) (c : Nat) (hn : n ≤ 1000000) :
    Calls Tryz.prog 79 #[.slice a n c] w (ClonedT 66 l w) := by
  cases a with
  | none =>
    have h0 : n = 0 := by
      by_cases h0 : n = 0
      · exact h0
      · obtain ⟨x, e, _⟩ := h.2.2 0 (by omega)
        cases e
    subst h0
    have hl : l = [] := List.eq_nil_of_length_eq_zero h.1
    subst hl
    clear h
    have hq : (binOp .eql 64 (.slice none 0 c) (.slice none 0 0)).run Tryz.prog w = .ok (.bool true) w := Lib.run_eql_slice_nil w _ 66 _ _ _ _ _ Tryz.underlying64
    go_enter Tryz.func79, Tryz.ntmps79
    go_wp2
    go_ret
    exact ⟨_, rfl, OwnT.nil _ _ _, Below.refl _ _⟩
  | some x =>
    have HT := Lib.hid (h.below (below_one w (.cells #[] 66)))
    have hO : OwnT (w.alloc (.cells #[] 66)) w.heap.size 66 (.slice (some ⟨w.heap.size, 0, none⟩) 0 0) [] := World.ownsRow_made w #[] 0 (Nat.le_refl _) (by unfold maxLen; omega) rfl
    have HO := Lib.hid hO
    have HB := Lib.hid (below_one w (.cells #[] 66))
    clear h hO
    have hq : (binOp .eql 64 (.slice (some x) n c) (.slice none 0 0)).run Tryz.prog w = .ok (.bool false) w := Lib.run_eql_slice_nil w _ 66 _ _ _ _ _ Tryz.underlying64
    go_enter Tryz.func79, Tryz.ntmps79
    go_wp2_with
      (at_builtin
       refine wpList_appL Tryz.underlying64 info_instr rfl _ _ rfl rfl HO.out rfl HT.out hn HB.out.size ?_
       intro v2 w2 hown hg
       have HW := Lib.hid hown
       have HF := Lib.hid (fr_below (fr_grown (S := []) (Fr.old HB.out) (fun k hk => (HO.out.lt k hk).1) hg))
       clear hown hg)
    go_ret
    exact ⟨_, rfl, HW.out, HF.out⟩

set_option maxHeartbeats 1000000 in
theorem clones_any {w : World} {B : Nat} {a : Option Addr} {n : Nat} {l : List T3} (h : Tris w B a n l) (c : Nat) (hn : n ≤ 1000000) :
    Calls Tryz.prog 80 #[.slice a n c] w (ClonedT 123 l w) := by
  cases a with
  | none =>
    have h0 : n = 0 := by
      by_cases h0 : n = 0
      · exact h0
      · obtain ⟨x, e, _⟩ := h.2.2 0 (by omega)
        cases e
    subst h0
    have hl : l = [] := List.eq_nil_of_length_eq_zero h.1
    subst hl
    clear h
    have hq : (binOp .eql 27 (.slice none 0 c) (.slice none 0 0)).run Tryz.prog w = .ok (.bool true) w := Lib.run_eql_slice_nil w _ 123 _ _ _ _ _ Tryz.underlying27
    go_enter Tryz.func80, Tryz.ntmps80
    go_wp2
    go_ret
    exact ⟨_, rfl, OwnT.nil _ _ _, Below.refl _ _⟩
  | some x =>
    have HT := Lib.hid (h.below (below_one w (.cells #[] 123)))
    have hO : OwnT (w.alloc (.cells #[] 123)) w.heap.size 123 (.slice (some ⟨w.heap.size, 0, none⟩) 0 0) [] := World.ownsRow_made w #[] 0 (Nat.le_refl _) (by unfold maxLen; omega) rfl
    have HO := Lib.hid hO
    have HB := Lib.hid (below_one w (.cells #[] 123))
    clear h hO
    have hq : (binOp .eql 27 (.slice (some x) n c) (.slice none 0 0)).run Tryz.prog w = .ok (.bool false) w := Lib.run_eql_slice_nil w _ 123 _ _ _ _ _ Tryz.underlying27
    go_enter Tryz.func80, Tryz.ntmps80
    go_wp2_with
      (at_builtin
       refine wpList_appL Tryz.underlying27 info_sub rfl _ _ rfl rfl HO.out rfl HT.out hn HB.out.size ?_
       intro v2 w2 hown hg
       have HW := Lib.hid hown
       have HF := Lib.hid (fr_below (fr_grown (S := []) (Fr.old HB.out) (fun k hk => (HO.out.lt k hk).1) hg))
       clear hown hg)
    go_ret
    exact ⟨_, rfl, HW.out, HF.out⟩

/-- What slices.Clone gives of the programs: a row of the call's own that holds the same slices. -/
def ClonedP (B : Nat) (ps : List (List T3)) (w : World) (e : Ending) (w' : World) : Prop :=
  ∃ (v : Value) (vs : List Value), e = .returned v ∧ vs.length = ps.length ∧ w'.ownsRow w.heap.size 64 1 v ps.length vs ∧
    (∀ i, i < ps.length → ∃ b m c, vs.getD i (.slice none 0 0) = .slice b m c ∧ Tris w' B b m (ps.getD i [])) ∧ Below w.heap.size w w'
theorem vals_in {w : World} {B : Nat} {x : Addr} {n : Nat} {ps : List (List T3)} (h : Prgs w B (some x) n ps) :
    ∃ vs : List Value, vs.length = n ∧ (∀ j u, vs[j]? = some u → w.cell? (x.add j) = some u) ∧ (∀ u ∈ vs, u.oneCell' = true) ∧ ∀ i, i < n → ∃ b m c, vs.getD i (.slice none 0 0) = .slice b m c ∧ Tris w B b m (ps.getD i []) := by
  obtain ⟨vs, hl, hp⟩ := list_of (.slice none 0 0) (fun i (u : Value) => w.cell? (x.add i) = some u ∧ ∃ b m c, u = .slice b m c ∧ Tris w B b m (ps.getD i [])) n (fun i hi => by
    obtain ⟨y, b, m, c, e, _, _, h0, ht⟩ := h.2.2 i hi
    cases e
    exact ⟨_, h0, b, m, c, rfl, ht⟩)
  refine ⟨vs, hl, fun j u hu => ?_, fun u hu => ?_, fun i hi => (hp i hi).2⟩
  · have hj : j < vs.length := (List.getElem?_eq_some_iff.1 hu).1
    have := (hp j (by omega)).1
    rw [List.getD_eq_getElem?_getD, hu] at this
    exact this
  · obtain ⟨j, hj⟩ := List.getElem?_of_mem hu
    have hjl : j < vs.length := (List.getElem?_eq_some_iff.1 hj).1
    obtain ⟨_, b, m, c, e, _⟩ := hp j (by omega)
    rw [List.getD_eq_getElem?_getD, hj] at e
    simp at e
    rw [e]
    rfl
set_option maxHeartbeats 1000000 in
theorem clonep_any {w : World} {B : Nat} {a : Option Addr} {n : Nat} {ps : List (List T3)} (h : Prgs w B a n ps) (c : Nat) (hn : n ≤ 1000000) :
    Calls Tryz.prog 78 #[.slice a n c] w (ClonedP B ps w) := by
  have hlen := h.1
  cases a with
  | none =>
    have h0 : n = 0 := by
      by_cases h0 : n = 0
      · exact h0
      · obtain ⟨x, _, _, _, e, _⟩ := h.2.2 0 (by omega)
        cases e
    subst h0
    have hl : ps = [] := List.eq_nil_of_length_eq_zero h.1
    subst hl
    clear h hlen
    have hq : (binOp .eql 26 (.slice none 0 c) (.slice none 0 0)).run Tryz.prog w = .ok (.bool true) w := Lib.run_eql_slice_nil w _ 64 _ _ _ _ _ Tryz.underlying26
    go_enter Tryz.func78, Tryz.ntmps78
    go_wp2
    go_ret
    exact ⟨_, [], rfl, rfl, World.ownsRow_nil _ _ _ _, fun i hi => by simp at hi, Below.refl _ _⟩
  | some x =>
    obtain ⟨i0, hi, hz0, hz1, hz2⟩ := info_parts info_code
    obtain ⟨vs, hv1, hv2', hv3, hv4⟩ := vals_in h
    have hv2 : ∀ j u, vs[j]? = some u → (w.alloc (.cells #[] 64)).cell? (x.add j) = some u := fun j u hu => ((below_one w _).cell (World.block_lt_of_cell? w _ (hv2' j u hu))).trans (hv2' j u hu)
    have HO := Lib.hid (show (w.alloc (.cells #[] 64)).ownsRow w.heap.size 64 1 (.slice (some ⟨w.heap.size, 0, none⟩) 0 0) 0 [] from World.ownsRow_made w #[] 0 (Nat.le_refl _) (by unfold maxLen; omega) rfl)
    have HB := Lib.hid (below_one w (.cells #[] 64))
    have H1 := Lib.hid hv1
    have H2 := Lib.hid hv2
    have H3 := Lib.hid hv3
    have H4 := Lib.hid hv4
    have HL := Lib.hid hlen
    clear h hv1 hv2 hv2' hv3 hv4 hlen
    have hq : (binOp .eql 26 (.slice (some x) n c) (.slice none 0 0)).run Tryz.prog w = .ok (.bool false) w := Lib.run_eql_slice_nil w _ 64 _ _ _ _ _ Tryz.underlying26
    go_enter Tryz.func78, Tryz.ntmps78
    go_wp2_with
      (at_builtin
       refine wpList_append_own_at _ rfl _ _ 26 rfl w.heap.size 64 i0 _ 1 24 Tryz.underlying26 hi hz0 hz1 hz2 rfl (by omega) _ 0 [] rfl HO.out x n _ vs rfl (by rw [H1.out, Nat.mul_one]) H2.out H3.out (by unfold maxLen; omega) (by omega) HB.out.size ?_
       intro v2 w2 hown hg _ _
       have HW := Lib.hid hown
       have HF := Lib.hid (fr_below (fr_grown (S := []) (Fr.old HB.out) (fun k hk => (World.ownsRow.lt HO.out k hk).1) hg))
       have HG := Lib.hid hg
       clear hown hg)
    go_ret
    refine ⟨_, vs, rfl, by rw [H1.out, HL.out], ?_, fun i hi2 => ?_, HF.out⟩
    · have := HW.out
      rw [HL.out]
      simpa using this
    · obtain ⟨b, m, cp, e, ht⟩ := H4.out i (by rw [← HL.out]; exact hi2)
      exact ⟨b, m, cp, e, ht.below HF.out⟩
end Go.Proofs.YtheimjcgpbmecaaGreat
