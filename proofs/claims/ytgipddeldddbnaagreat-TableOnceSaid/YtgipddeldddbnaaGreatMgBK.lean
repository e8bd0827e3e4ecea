/-
  Bytes that lie below a block, as a list of numbers; eleven cells stored. No function of the program is named.
  What both Decodes keep: the reader's place, the configuration under way, its rows.
-/
import Derived.Test.YtgipddeldddbnaaGreatCfOwn
namespace Go.Proofs.YtgipddeldddbnaaGreat
open Go Go.RowKit

/-- The slice (a, n) reads as the bytes zs, in a block below B. -/
def InB (w : World) (B : Nat) (a : Option Addr) (n : Nat) (zs : List Int) : Prop :=
  zs.length = n ∧ n ≤ maxLen ∧ ∀ i, i < n → ∃ x : Addr, a = some x ∧ x.block < B ∧ w.cell? (x.add i) = some (.int .u8 (zs.getD i 0)) ∧ 0 ≤ zs.getD i 0 ∧ zs.getD i 0 ≤ 255
theorem InB.fr {w w' : World} {B : Nat} {a : Option Addr} {n : Nat} {zs : List Int} {S : List Nat} (h : InB w B a n zs) (hB : B ≤ w.heap.size) (hb : Fr S w w') (hS : ∀ s, s ∈ S → B ≤ s) : InB w' B a n zs :=
  ⟨h.1, h.2.1, fun i hi => by
    obtain ⟨x, e, hx, hc, hr⟩ := h.2.2 i hi
    refine ⟨x, e, hx, ?_, hr⟩
    have hk := hb.block x.block (by omega) (fun hm => by have := hS _ hm; omega)
    rw [World.cell?_of_block (w := w) (by rw [block_add]; exact hk)]
    exact hc⟩
theorem InB.below {w w' : World} {B : Nat} {a : Option Addr} {n : Nat} {zs : List Int} (h : InB w B a n zs) (_hB : B ≤ w.heap.size) (hb : Below B w w') : InB w' B a n zs :=
  ⟨h.1, h.2.1, fun i hi => by
    obtain ⟨x, e, hx, hc, hr⟩ := h.2.2 i hi
    refine ⟨x, e, hx, ?_, hr⟩
    rw [hb.cell (by rw [block_add]; exact hx)]
    exact hc⟩
theorem InB.mono {w : World} {B B' : Nat} {a : Option Addr} {n : Nat} {zs : List Int} (h : InB w B a n zs) (hB : B ≤ B') : InB w B' a n zs :=
  ⟨h.1, h.2.1, fun i hi => by
    obtain ⟨x, e, hx, r⟩ := h.2.2 i hi
    exact ⟨x, e, by omega, r⟩⟩
theorem inB_nil (w : World) (B : Nat) (a : Option Addr) : InB w B a 0 [] := ⟨rfl, by omega, fun i hi => by omega⟩
/-- What is left behind the first byte. -/
theorem InB.rest {w : World} {B : Nat} {x : Addr} {n : Nat} {zs : List Int} (h : InB w B (some x) n zs) (hn : 1 ≤ n) : InB w B (some (x.add 1)) (n - 1) (zs.drop 1) := by
  refine ⟨by rw [List.length_drop, h.1], by have := h.2.1; omega, fun i hi => ?_⟩
  obtain ⟨y, e, hx, hc, hr⟩ := h.2.2 (1 + i) (by omega)
  cases e
  have eg : (zs.drop 1).getD i 0 = zs.getD (1 + i) 0 := by
    rw [List.getD_eq_getElem?_getD, List.getD_eq_getElem?_getD, List.getElem?_drop]
  refine ⟨_, rfl, by rw [block_add]; exact hx, ?_, ?_⟩
  · rw [Go.Deep.add_add, eg]
    exact hc
  · rw [eg]
    exact hr

theorem strm_drop (zs : List Int) (i : Nat) : (zs.drop i).getD 0 0 = strm zs i := by
  unfold strm
  rw [List.getD_eq_getElem?_getD, List.getD_eq_getElem?_getD, List.getElem?_drop, Nat.add_zero]

/-- Eleven cells stored. -/
theorem Blk.put11 {w : World} {g : Nat} {t : TypeId} {a0 a1 a2 a3 a4 a5 a6 a7 a8 a9 a10 : Value} (h : Blk w g t #[a0, a1, a2, a3, a4, a5, a6, a7, a8, a9, a10]) (v0 v1 v2 v3 v4 v5 v6 v7 v8 v9 v10 : Value) : Blk (((((((((((w.setCell ⟨g, 0, none⟩ v0).setCell ⟨g, 1, none⟩ v1).setCell ⟨g, 2, none⟩ v2).setCell ⟨g, 3, none⟩ v3).setCell ⟨g, 4, none⟩ v4).setCell ⟨g, 5, none⟩ v5).setCell ⟨g, 6, none⟩ v6).setCell ⟨g, 7, none⟩ v7).setCell ⟨g, 8, none⟩ v8).setCell ⟨g, 9, none⟩ v9).setCell ⟨g, 10, none⟩ v10) g t #[v0, v1, v2, v3, v4, v5, v6, v7, v8, v9, v10] := by
  have := (((((((((((h.put 0 v0).put 1 v1).put 2 v2).put 3 v3).put 4 v4).put 5 v5).put 6 v6).put 7 v7).put 8 v8).put 9 v9).put 10 v10)
  simpa only [List.setIfInBounds_toArray, List.set_cons_zero, List.set_cons_succ] using this
theorem fr11 (w : World) (g : Nat) (v0 v1 v2 v3 v4 v5 v6 v7 v8 v9 v10 : Value) : Fr [g] w (((((((((((w.setCell ⟨g, 0, none⟩ v0).setCell ⟨g, 1, none⟩ v1).setCell ⟨g, 2, none⟩ v2).setCell ⟨g, 3, none⟩ v3).setCell ⟨g, 4, none⟩ v4).setCell ⟨g, 5, none⟩ v5).setCell ⟨g, 6, none⟩ v6).setCell ⟨g, 7, none⟩ v7).setCell ⟨g, 8, none⟩ v8).setCell ⟨g, 9, none⟩ v9).setCell ⟨g, 10, none⟩ v10) :=
  ((((((((((((Fr.refl [g] w).setCell (p := ⟨g, 0, none⟩) (.inl (List.mem_singleton.2 rfl)) v0).setCell (p := ⟨g, 1, none⟩) (.inl (List.mem_singleton.2 rfl)) v1).setCell (p := ⟨g, 2, none⟩) (.inl (List.mem_singleton.2 rfl)) v2).setCell (p := ⟨g, 3, none⟩) (.inl (List.mem_singleton.2 rfl)) v3).setCell (p := ⟨g, 4, none⟩) (.inl (List.mem_singleton.2 rfl)) v4).setCell (p := ⟨g, 5, none⟩) (.inl (List.mem_singleton.2 rfl)) v5).setCell (p := ⟨g, 6, none⟩) (.inl (List.mem_singleton.2 rfl)) v6).setCell (p := ⟨g, 7, none⟩) (.inl (List.mem_singleton.2 rfl)) v7).setCell (p := ⟨g, 8, none⟩) (.inl (List.mem_singleton.2 rfl)) v8).setCell (p := ⟨g, 9, none⟩) (.inl (List.mem_singleton.2 rfl)) v9).setCell (p := ⟨g, 10, none⟩) (.inl (List.mem_singleton.2 rfl)) v10)

abbrev zero11 : Array Value := #[.int .i64 0, .int .i64 0, .int .i64 0, .int .i64 0, .int .i64 0, .int .i64 0, .int .i64 0, .int .i64 0, .int .i64 0, .slice none 0 0, .slice none 0 0]

/-- A reader that stands where it stood while other blocks change. -/
def Stable (Rd : World → Nat → Nat → List Int → Nat → Prop) : Prop :=
  ∀ {w w' : World} {B g : Nat} {zs : List Int} {i : Nat} {S : List Nat}, Rd w B g zs i → Fr S w w' → (∀ s, s ∈ S → B ≤ s ∧ s ≠ g) → Rd w' B g zs i
end Go.Proofs.YtgipddeldddbnaaGreat

namespace Go.Proofs.YtgipddeldddbnaaGreat
open Go Go.RowKit

theorem fr_row {w w' : World} {row : Option Nat} (hg : w.grownBy w' row) : Fr row.toList w w' :=
  ⟨hg.os, hg.tape, hg.output, hg.size, fun k hk hn => hg.block k hk (fun e => hn (by simp [← e]))⟩
theorem row_mem {row : Option Nat} {s : Nat} (h : s ∈ row.toList) : row = some s := by simpa using h

theorem OwnT.grown {w w' : World} {base : Nat} {t t' : TypeId} {v v' : Value} {l l' : List T3} (h : OwnT w base t v l) (h' : OwnT w base t' v' l') (hne : t ≠ t') (hg : w.grownBy w' v'.ownBlock) : OwnT w' base t v l := by
  refine ⟨h.1, ?_⟩
  rcases h.2 with h4 | ⟨g, cap, cur, rfl, h4, hgg, rest⟩
  · exact .inl h4
  · refine .inr ⟨g, cap, cur, rfl, h4, (hg.block g (Array.getElem?_eq_some_iff.1 hgg).1 (fun e => ?_)).trans hgg, rest⟩
    rcases h'.2 with ⟨rfl, _⟩ | ⟨g2, cap2, cur2, rfl, _, hg2, _⟩
    · simp [Value.ownBlock] at e
    · simp [Value.ownBlock] at e
      subst e
      rw [hgg] at hg2
      simp only [Option.some.injEq, Obj.cells.injEq] at hg2
      exact hne hg2.2.1
theorem OwnP.grown {w w' : World} {base : Nat} {v v' : Value} {ps : List (List T3)} {l' : List T3} (h : OwnP w base v ps) (h' : OwnT w base 87 v' l') (hg : w.grownBy w' v'.ownBlock) : OwnP w' base v ps := by
  obtain ⟨vs, h1, h2, h3⟩ := h
  refine ⟨vs, h1, ⟨h2.1, ?_⟩, fun i hi => (h3 i hi).grown h' (by decide) hg⟩
  rcases h2.2 with h4 | ⟨g, cap, cur, rfl, h4, hgg, rest⟩
  · exact .inl h4
  · refine .inr ⟨g, cap, cur, rfl, h4, (hg.block g (Array.getElem?_eq_some_iff.1 hgg).1 (fun e => ?_)).trans hgg, rest⟩
    rcases h'.2 with ⟨rfl, _⟩ | ⟨g2, cap2, cur2, rfl, _, hg2, _⟩
    · simp [Value.ownBlock] at e
    · simp [Value.ownBlock] at e
      subst e
      rw [hgg] at hg2
      cases hg2

/-- The cells of the configuration under way. -/
abbrev ncells (f : Nat → Int) (pv sv : Value) : Array Value :=
  #[.int .i64 (1 + f 0 % 4), .int .i64 (nLe f), .int .i64 (1 + f 2 % min 3 (nLe f)), .int .i64 (1 + f 3 % 12), .int .i64 (nDe f), .int .i64 (1 + f 5 % 4), .int .i64 (1 + f 6 % nDe f), .int .i64 (f 7 % 6), .int .i64 (1 + f 8 % 8), pv, sv]

/-- What is known between two steps of a Decode: w2 is the world in which the configuration was begun. -/
structure DecSt (Rd : World → Nat → Nat → List Int → Nat → Prop) (w2 : World) (B g cb : Nat) (zs : List Int) (f : Nat → Int) (pos : Nat) (pv sv : Value) (ps : List (List T3)) (ss : List T3) (w : World) : Prop where
  rd : Rd w B g zs pos
  fr : Fr [g, cb] w2 w
  c : Blk w cb 30 (ncells f pv sv)
  pr : OwnP w w2.heap.size pv ps
  su : OwnT w w2.heap.size 87 sv ss
  o1 : B ≤ g
  o2 : g < cb
  o3 : cb < w2.heap.size

section
variable {Rd : World → Nat → Nat → List Int → Nat → Prop} {w2 w w' : World} {B g cb : Nat} {zs : List Int} {f : Nat → Int} {pos pos' : Nat} {pv sv : Value} {ps : List (List T3)} {ss : List T3}

theorem DecSt.lt (h : DecSt Rd w2 B g cb zs f pos pv sv ps ss w) : w2.heap.size ≤ w.heap.size := h.fr.size
theorem DecSt.read (h : DecSt Rd w2 B g cb zs f pos pv sv ps ss w) (hr : Rd w' B g zs pos') (hf : Fr [g] w w') : DecSt Rd w2 B g cb zs f pos' pv sv ps ss w' := by
  have h1 := h.o1
  have h2 := h.o2
  have h3 := h.o3
  exact ⟨hr, h.fr.trans (hf.mono (fun k hk => by simp at hk; simp [hk])), h.c.of_same (hf.block _ h.c.lt (by simp; omega)), h.pr.fr hf (fun s hs => by simp at hs; omega), h.su.fr hf (fun s hs => by simp at hs; omega), h1, h2, h3⟩
theorem DecSt.keep (h : DecSt Rd w2 B g cb zs f pos pv sv ps ss w) (hst : Stable Rd) (hf : Fr [] w w') : DecSt Rd w2 B g cb zs f pos pv sv ps ss w' :=
  ⟨hst h.rd hf (fun s hs => by simp at hs), h.fr.trans (hf.mono (fun k hk => by simp at hk)), h.c.of_same (hf.block _ h.c.lt (by simp)), h.pr.fr hf (fun s hs => by simp at hs), h.su.fr hf (fun s hs => by simp at hs), h.o1, h.o2, h.o3⟩
theorem DecSt.alloc (h : DecSt Rd w2 B g cb zs f pos pv sv ps ss w) (hst : Stable Rd) (o : Obj) : DecSt Rd w2 B g cb zs f pos pv sv ps ss (w.alloc o) := h.keep hst ((Fr.refl [] w).alloc o)
/-- What the walk needs behind an append to a row of the configuration. -/
theorem DecSt.at_ (h : DecSt Rd w2 B g cb zs f pos pv sv ps ss w) {row : Option Nat} (hr : ∀ k, row = some k → w2.heap.size ≤ k) (hg : w.grownBy w' row) : Blk w' cb 30 (ncells f pv sv) := by
  have h3 := h.o3
  exact h.c.grown hg (fun e => by have := hr _ e; omega)
/-- A program is appended and the row stored. -/
theorem DecSt.addP (h : DecSt Rd w2 B g cb zs f pos pv sv ps [] w) (hsv : sv = .slice none 0 0) (hst : Stable Rd) {v' : Value} {l : List T3} (hown : OwnP w' w2.heap.size v' (ps ++ [l])) (hg : w.grownBy w' pv.ownBlock) :
    DecSt Rd w2 B g cb zs f pos v' sv (ps ++ [l]) [] (w'.setCell ⟨cb, 9, none⟩ v') := by
  have h1 := h.o1
  have h2 := h.o2
  have h3 := h.o3
  have hrow : ∀ s, s ∈ pv.ownBlock.toList → w2.heap.size ≤ s := fun s hs => (h.pr.lt s (row_mem hs)).1
  have hS : Fr [cb] w' (w'.setCell ⟨cb, 9, none⟩ v') := (Fr.refl [cb] w').setCell (p := ⟨cb, 9, none⟩) (.inl (List.mem_singleton.2 rfl)) v'
  have hC := (h.at_ (fun k hk => (h.pr.lt k hk).1) hg).put 9 v'
  simp only [List.setIfInBounds_toArray, List.set_cons_zero, List.set_cons_succ] at hC
  subst hsv
  refine ⟨hst (hst h.rd (fr_row hg) (fun s hs => by have := hrow s hs; omega)) hS (fun s hs => by simp at hs; omega), ?_, hC, hown.fr hS (fun s hs => by simp at hs; omega), OwnT.nil _ _ _, h1, h2, h3⟩
  exact (fr_grown h.fr (fun k hk => (h.pr.lt k hk).1) hg).setCell (p := ⟨cb, 9, none⟩) (.inl (by simp)) v'
/-- A submission is appended and the row stored. -/
theorem DecSt.addS (h : DecSt Rd w2 B g cb zs f pos pv sv ps ss w) (hst : Stable Rd) {v' : Value} {e : T3} (hown : OwnT w' w2.heap.size 87 v' (ss ++ [e])) (hg : w.grownBy w' sv.ownBlock) :
    DecSt Rd w2 B g cb zs f pos pv v' ps (ss ++ [e]) (w'.setCell ⟨cb, 10, none⟩ v') := by
  have h1 := h.o1
  have h2 := h.o2
  have h3 := h.o3
  have hrow : ∀ s, s ∈ sv.ownBlock.toList → w2.heap.size ≤ s := fun s hs => (h.su.lt s (row_mem hs)).1
  have hS : Fr [cb] w' (w'.setCell ⟨cb, 10, none⟩ v') := (Fr.refl [cb] w').setCell (p := ⟨cb, 10, none⟩) (.inl (List.mem_singleton.2 rfl)) v'
  have hC := (h.at_ (fun k hk => (h.su.lt k hk).1) hg).put 10 v'
  simp only [List.setIfInBounds_toArray, List.set_cons_zero, List.set_cons_succ] at hC
  refine ⟨hst (hst h.rd (fr_row hg) (fun s hs => by have := hrow s hs; omega)) hS (fun s hs => by simp at hs; omega), ?_, hC, (h.pr.grown h.su hg).fr hS (fun s hs => by simp at hs; omega), hown.fr hS (fun s hs => by simp at hs; omega), h1, h2, h3⟩
  exact (fr_grown h.fr (fun k hk => (h.su.lt k hk).1) hg).setCell (p := ⟨cb, 10, none⟩) (.inl (by simp)) v'

/-- The same within a program: p is the row under way. -/
structure InSt (Rd : World → Nat → Nat → List Int → Nat → Prop) (w4 : World) (B g : Nat) (zs : List Int) (pos : Nat) (p : Value) (l : List T3) (w : World) : Prop where
  rd : Rd w B g zs pos
  fr : Fr [g] w4 w
  p : OwnT w w4.heap.size 84 p l
variable {w4 : World} {p : Value} {l : List T3}
theorem InSt.read (h : InSt Rd w4 B g zs pos p l w) (hlt : g < w4.heap.size) (hr : Rd w' B g zs pos') (hf : Fr [g] w w') : InSt Rd w4 B g zs pos' p l w' :=
  ⟨hr, h.fr.trans hf, h.p.fr hf (fun s hs => by simp at hs; omega)⟩
theorem InSt.keep (h : InSt Rd w4 B g zs pos p l w) (hst : Stable Rd) (hf : Fr [] w w') : InSt Rd w4 B g zs pos p l w' :=
  ⟨hst h.rd hf (fun s hs => by simp at hs), h.fr.trans (hf.mono (fun k hk => by simp at hk)), h.p.fr hf (fun s hs => by simp at hs)⟩
theorem InSt.alloc (h : InSt Rd w4 B g zs pos p l w) (hst : Stable Rd) (o : Obj) : InSt Rd w4 B g zs pos p l (w.alloc o) := h.keep hst ((Fr.refl [] w).alloc o)
theorem InSt.add (h : InSt Rd w4 B g zs pos p l w) (hst : Stable Rd) (hB : B ≤ g) (hlt : g < w4.heap.size) {v' : Value} {e : T3} (hown : OwnT w' w4.heap.size 84 v' (l ++ [e])) (hg : w.grownBy w' p.ownBlock) : InSt Rd w4 B g zs pos v' (l ++ [e]) w' :=
  ⟨hst h.rd (fr_row hg) (fun s hs => by have := (h.p.lt s (row_mem hs)).1; omega), fr_grown h.fr (fun k hk => (h.p.lt k hk).1) hg, hown⟩
end

/-- What the loop over the programs keeps. -/
def DecR (Rd : World → Nat → Nat → List Int → Nat → Prop) (w2 : World) (B g cb : Nat) (zs : List Int) (f : Nat → Int) (n : Int) (N : Nat) (i : Value) (w : World) : Prop :=
  ∃ (k : Nat) (pv : Value), k ≤ N ∧ i = .int .i64 k ∧ DecSt Rd w2 B g cb zs f (rdPs f n (nLe f) k 10).2 pv (.slice none 0 0) (rdPs f n (nLe f) k 10).1 [] w
/-- What the loop over the instructions keeps: j of them are read (up), or left (down). -/
def InR (Rd : World → Nat → Nat → List Int → Nat → Prop) (w4 : World) (B g : Nat) (zs : List Int) (f : Nat → Int) (n : Int) (pos M : Nat) (p i : Value) (w : World) : Prop :=
  ∃ j : Nat, j ≤ M ∧ i = .int .i64 j ∧ InSt Rd w4 B g zs (rdIs f n (nLe f) j pos).2 p (rdIs f n (nLe f) j pos).1 w
def InD (Rd : World → Nat → Nat → List Int → Nat → Prop) (w4 : World) (B g : Nat) (zs : List Int) (f : Nat → Int) (n : Int) (pos M : Nat) (p i : Value) (w : World) : Prop :=
  ∃ j m : Nat, j + m = M ∧ i = .int .i64 (m : Int) ∧ InSt Rd w4 B g zs (rdIs f n (nLe f) j pos).2 p (rdIs f n (nLe f) j pos).1 w
/-- What the loop over the submissions keeps. -/
def DecS (Rd : World → Nat → Nat → List Int → Nat → Prop) (w2 : World) (B g cb : Nat) (zs : List Int) (f : Nat → Int) (n : Int) (pos M : Nat) (pv : Value) (ps : List (List T3)) (i : Value) (w : World) : Prop :=
  ∃ (k : Nat) (sv : Value), k ≤ M ∧ i = .int .i64 k ∧ DecSt Rd w2 B g cb zs f (pos + 3 * k) pv sv ps (rdSs f n (nLe f) k pos) w
def DecD (Rd : World → Nat → Nat → List Int → Nat → Prop) (w2 : World) (B g cb : Nat) (zs : List Int) (f : Nat → Int) (n : Int) (pos M : Nat) (pv : Value) (ps : List (List T3)) (i : Value) (w : World) : Prop :=
  ∃ (k m : Nat) (sv : Value), k + m = M ∧ i = .int .i64 (m : Int) ∧ DecSt Rd w2 B g cb zs f (pos + 3 * k) pv sv ps (rdSs f n (nLe f) k pos) w

/-- The value v is a configuration in memory of the call's own (from block B on) that reads as c. -/
def OwnCfg (w : World) (B : Nat) (v : Value) (c : Cfg) : Prop :=
  ∃ pa pn pc sa sn sc, v = cv c pa pn pc sa sn sc ∧ OwnP w B (.slice pa pn pc) c.pr ∧ OwnT w B 87 (.slice sa sn sc) c.su ∧ Lists w B c pa pn sa sn
theorem OwnCfg.isCfg {w : World} {B : Nat} {v : Value} {c : Cfg} (h : OwnCfg w B v c) : IsCfg w B v c := by
  obtain ⟨pa, pn, pc, sa, sn, sc, e, _, _, hl⟩ := h
  exact ⟨pa, pn, pc, sa, sn, sc, e, hl⟩
/-- What a Decode gives: a configuration in new memory. -/
def Decoded (zs : List Int) (w : World) (e : Ending) (w' : World) : Prop := ∃ v, e = .returned v ∧ OwnCfg w' w.heap.size v (decC (strm zs)) ∧ Below w.heap.size w w'
theorem OwnP.mono {w : World} {base base' : Nat} {v : Value} {ps : List (List T3)} (h : OwnP w base v ps) (hb : base' ≤ base) : OwnP w base' v ps := by
  obtain ⟨vs, h1, h2, h3⟩ := h
  refine ⟨vs, h1, ⟨h2.1, ?_⟩, fun i hi => (h3 i hi).mono hb⟩
  rcases h2.2 with h4 | ⟨g, cap, cur, rfl, h4, rest⟩
  · exact .inl h4
  · exact .inr ⟨g, cap, cur, rfl, Nat.le_trans hb h4, rest⟩

/-- The end: the configuration is copied into the result. -/
theorem DecSt.done {Rd : World → Nat → Nat → List Int → Nat → Prop} {w0 w2 w : World} {B g cb pos : Nat} {zs : List Int} {pv sv : Value} (h : DecSt Rd w2 B g cb zs (strm zs) pos pv sv (qPr (strm zs)).1 (decC (strm zs)).su w)
    (hf : Fr [] w0 w2) (hg : w0.heap.size < g) {w' : World}
    (hF : Fr [w0.heap.size] w w') : OwnCfg w' w0.heap.size (.agg (ncells (strm zs) pv sv)) (decC (strm zs)) ∧ Below w0.heap.size w0 w' := by
  have h2 := h.o2
  have h3 := h.o3
  have hs := hf.size
  have hop := h.pr.fr hF (fun s hs => by simp at hs; omega)
  have hos := h.su.fr hF (fun s hs => by simp at hs; omega)
  obtain ⟨pa, pc, rfl, hp, _⟩ := hop.form
  obtain ⟨sa, sc, rfl, hss, _⟩ := hos.form
  refine ⟨⟨pa, _, pc, sa, _, sc, rfl, hop.mono (by omega), hos.mono (by omega), hp.mono (by omega), hss.mono (by omega)⟩, fr_below ?_⟩
  exact (hf.drop h.fr (fun x hx => by simp at hx; omega)).drop hF (fun x hx => by simp at hx; omega)
theorem DecSt.res {Rd : World → Nat → Nat → List Int → Nat → Prop} {w0 w2 w : World} {B g cb pos : Nat} {zs : List Int} {f : Nat → Int} {pv sv : Value} {ps : List (List T3)} {ss : List T3} (h : DecSt Rd w2 B g cb zs f pos pv sv ps ss w)
    (hg : w0.heap.size < g) (hd : Blk w2 w0.heap.size 30 zero11) : Blk w w0.heap.size 30 zero11 := by
  have h2 := h.o2
  exact hd.of_same (h.fr.block _ hd.lt (by simp; omega))
end Go.Proofs.YtgipddeldddbnaaGreat
