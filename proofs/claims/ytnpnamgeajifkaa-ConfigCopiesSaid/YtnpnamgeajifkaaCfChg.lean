/-
  Contract of changed. (Written by wip/gen_cfchg.py.)
-/
import Derived.Test.YtnpnamgeajifkaaCfLight
import Derived.Test.YtnpnamgeajifkaaKeep
import Derived.Test.YtnpnamgeajifkaaCfRDec
namespace Go.Proofs.Ytnpnamgeajifkaa
open Go Go.RowKit
set_option linter.unusedSimpArgs false

/-- What changed gives: some configuration. -/
def Changed (w : World) (e : Ending) (w' : World) : Prop := ∃ v c', e = .returned v ∧ IsCfg w' 0 v c' ∧ Below w.heap.size w w'

/-- A place in a row of triples of the call's own: its cells may be written. -/
theorem OwnT.cellF {w : World} {B : Nat} {t : TypeId} {a : Option Addr} {n c : Nat} {l : List T3} (h : OwnT w B t (.slice a n c) l) (hn : l.length = n) {i : Nat} (hi : i < n) :
    ∃ (x : Addr) (o p q : Int), a = some x ∧ B ≤ x.block ∧ w.cell? (x.add (i * 3)) = some (.int .i64 o) ∧ w.cell? ⟨(x.add (i * 3)).block, (x.add (i * 3)).off + 1, none⟩ = some (.int .i64 p) ∧ w.cell? ⟨(x.add (i * 3)).block, (x.add (i * 3)).off + 2, none⟩ = some (.int .i64 q) ∧
      w.frozen? (x.add (i * 3)) = false ∧ w.frozen? ⟨(x.add (i * 3)).block, (x.add (i * 3)).off + 1, none⟩ = false ∧ w.frozen? ⟨(x.add (i * 3)).block, (x.add (i * 3)).off + 2, none⟩ = false := by
  obtain ⟨a', c', e, ht, _⟩ := h.formN hn
  simp only [Value.slice.injEq] at e
  obtain ⟨rfl, _, rfl⟩ := e
  obtain ⟨x, o, p, q, rfl, _, hB, _, c0, c1, c2⟩ := ht.at_ hi
  refine ⟨x, o, p, q, rfl, hB, c0, c1, c2, ?_⟩
  rcases h.2 with ⟨h0, _⟩ | ⟨g, cap, cur, hv, _, hg, _⟩
  · cases h0
  · have hx : x = ⟨g, 0, none⟩ := by
      simp only [Value.slice.injEq, Option.some.injEq] at hv
      exact hv.1
    subst hx
    have hf : ∀ a : Addr, a.block = g → w.frozen? a = false := by
      intro a ha
      simp [World.frozen?, ha, hg]
    exact ⟨hf _ (by rw [block_add]), hf _ (by rw [block_add]), hf _ (by rw [block_add])⟩
/-- A program of a configuration of the call's own. -/
theorem OwnP.at_ {w : World} {B : Nat} {a : Option Addr} {n c : Nat} {ps : List (List T3)} (h : OwnP w B (.slice a n c) ps) (hn : ps.length = n) {i : Nat} (hi : i < n) :
    ∃ (x : Addr) (b : Option Addr) (m cp : Nat) (p : List T3), a = some x ∧ ps[i]? = some p ∧ x.block < w.heap.size ∧ w.cell? (x.add i) = some (.slice b m cp) ∧ OwnT w B 47 (.slice b m cp) p ∧ p.length = m := by
  obtain ⟨vs, h1, h2, h3⟩ := h
  have h4 := h3 i (by omega)
  obtain ⟨b, cp, e, _, _⟩ := h4.form
  rcases h2.2 with ⟨h0, h5⟩ | ⟨g, cap, cur, hv, h5, hg, _⟩
  · omega
  · simp only [Value.slice.injEq] at hv
    obtain ⟨rfl, _, rfl⟩ := hv
    have hil : i < ps.length := by omega
    have hiv : i < vs.length := by omega
    have eg : ps.getD i [] = ps[i] := by
      rw [List.getD_eq_getElem?_getD, List.getElem?_eq_getElem hil]
      rfl
    have ev : vs.getD i (.slice none 0 0) = vs[i] := by
      rw [List.getD_eq_getElem?_getD, List.getElem?_eq_getElem hiv]
      rfl
    refine ⟨_, b, ps[i].length, cp, ps[i], rfl, List.getElem?_eq_getElem hil, (Array.getElem?_eq_some_iff.1 hg).1, ?_, ?_, rfl⟩
    · refine World.ownsRow.cells h2 rfl _ _ ?_
      rw [List.getElem?_eq_getElem hiv, ← ev, e, eg]
    · rw [← eg, ← e]
      exact h4
/-- A number stored where one was: a configuration stays one. -/
theorem Lists.put {w : World} {B : Nat} {c : Cfg} {pa : Option Addr} {pn : Nat} {sa : Option Addr} {sn : Nat} (h : Lists w B c pa pn sa sn) {p : Addr} {u : Int} (hp : w.cell? p = some (.int .i64 u)) (v : Int) :
    ∃ pr su, Lists (w.setCell p (.int .i64 v)) B { c with pr := pr, su := su } pa pn sa sn := by
  obtain ⟨pr, hpr, _⟩ := h.pr.put hp v
  obtain ⟨su, hsu⟩ := h.su.put p v
  exact ⟨pr, su, hpr, hsu⟩

theorem keepnum_z {w : World} {a : Option Addr} {L : Nat} {zs : List Int} (h : InInts w a L zs) (c : Nat) (n : Int) (hn : 1 ≤ n) (hn' : n ≤ 1000000) :
    Calls Try.prog 19 #[.slice a L c, .int .i64 0, .int .i64 n] w (NumR n w) := keepnum_any h c 0 (by omega) n hn hn'

theorem ints_one (w : World) (z : Int) : InInts (w.alloc (.cells #[.int .i64 z] 3)) (some ⟨w.heap.size, 0, none⟩) 1 [z] := by
  have hB := Blk.made w 3 #[.int .i64 z]
  refine ⟨rfl, by unfold maxLen; omega, fun i hi => ⟨_, rfl, hB.lt, ?_⟩⟩
  obtain rfl : i = 0 := by omega
  exact hB.at_ 0

/-- The box holds a configuration whose lists may be written. -/
def ChA (w W : World) : Prop := ∃ (c : Cfg) (B : Nat) (pa : Option Addr) (pn pc : Nat) (sa : Option Addr) (sn sc : Nat),
  Blk W w.heap.size 25 (cc c pa pn pc sa sn sc) ∧ Blk W (w.heap.size + 1) 25 zero11 ∧ OwnP W B (.slice pa pn pc) c.pr ∧ OwnT W B 49 (.slice sa sn sc) c.su ∧
  Below w.heap.size w W ∧ w.heap.size + 3 ≤ B ∧ 1 ≤ c.pr.length ∧ c.pr.length ≤ 4 ∧ c.su.length ≤ 5 ∧ ∀ p ∈ c.pr, p.length ≤ 5

theorem add_zero (x : Addr) : x.add 0 = x := by unfold Addr.add; rfl
theorem OwnT.len {w : World} {base : Nat} {t : TypeId} {a : Option Addr} {n c : Nat} {l : List T3} (h : OwnT w base t (.slice a n c) l) : l.length = n := by
  obtain ⟨a', c', e, _, _⟩ := h.form
  simp only [Value.slice.injEq] at e
  exact e.2.1.symm
theorem OwnP.len {w : World} {base : Nat} {a : Option Addr} {n c : Nat} {ps : List (List T3)} (h : OwnP w base (.slice a n c) ps) : ps.length = n := by
  obtain ⟨a', c', e, _, _⟩ := h.form
  simp only [Value.slice.injEq] at e
  exact e.2.1.symm
theorem OwnT.tris {w : World} {base : Nat} {t : TypeId} {a : Option Addr} {n c : Nat} {l : List T3} (h : OwnT w base t (.slice a n c) l) (hn : l.length = n) : Tris w base a n l := by
  obtain ⟨a', c', e, ht, _⟩ := h.formN hn
  simp only [Value.slice.injEq] at e
  obtain ⟨rfl, _, rfl⟩ := e
  exact ht
theorem OwnP.prgs {w : World} {base : Nat} {a : Option Addr} {n c : Nat} {ps : List (List T3)} (h : OwnP w base (.slice a n c) ps) (hn : ps.length = n) : Prgs w base a n ps := by
  obtain ⟨a', c', e, ht, _⟩ := h.formN hn
  simp only [Value.slice.injEq] at e
  obtain ⟨rfl, _, rfl⟩ := e
  exact ht
/-- The box holds a configuration whose submissions may be written. -/
def ChB (w : World) (B : Nat) (c : Cfg) (pa : Option Addr) (pn pc : Nat) (sa : Option Addr) (sn sc : Nat) (W : World) : Prop := ∃ (pr : List (List T3)) (su : List T3),
  Blk W w.heap.size 25 (cc c pa pn pc sa sn sc) ∧ Blk W (w.heap.size + 1) 25 zero11 ∧ OwnT W B 49 (.slice sa sn sc) su ∧ Lists W (w.heap.size + 2) { c with pr := pr, su := su } pa pn sa sn ∧ Below w.heap.size w W
/-- .. whose lists can be read. -/
def ChC (w : World) (c : Cfg) (pa : Option Addr) (pn pc : Nat) (sa : Option Addr) (sn sc : Nat) (W : World) : Prop := ∃ (pr : List (List T3)) (su : List T3),
  Blk W w.heap.size 25 (cc c pa pn pc sa sn sc) ∧ Blk W (w.heap.size + 1) 25 zero11 ∧ Lists W (w.heap.size + 2) { c with pr := pr, su := su } pa pn sa sn ∧ Below w.heap.size w W

theorem Tris.fr {w w' : World} {B : Nat} {a : Option Addr} {n : Nat} {l : List T3} {S : List Nat} (h : Tris w B a n l) (hb : Fr S w w') (hS : ∀ s, s ∈ S → s < B) : Tris w' B a n l :=
  ⟨h.1, h.2.1, fun i hi => by
    obtain ⟨x, e, hB, hx, h0, h1, h2⟩ := h.2.2 i hi
    have hk := hb.block x.block hx (fun hm => by have := hS _ hm; omega)
    have hc : ∀ j, w'.cell? (x.add j) = w.cell? (x.add j) := fun j => World.cell?_of_block (w := w) (by rw [block_add]; exact hk)
    exact ⟨x, e, hB, Nat.lt_of_lt_of_le hx hb.size, (hc _).trans h0, (hc _).trans h1, (hc _).trans h2⟩⟩
theorem Prgs.fr {w w' : World} {B : Nat} {a : Option Addr} {n : Nat} {ps : List (List T3)} {S : List Nat} (h : Prgs w B a n ps) (hb : Fr S w w') (hS : ∀ s, s ∈ S → s < B) : Prgs w' B a n ps :=
  ⟨h.1, h.2.1, fun i hi => by
    obtain ⟨x, b, m, c, e, hB, hx, h0, ht⟩ := h.2.2 i hi
    have hk := hb.block x.block hx (fun hm => by have := hS _ hm; omega)
    exact ⟨x, b, m, c, e, hB, Nat.lt_of_lt_of_le hx hb.size, (World.cell?_of_block (w := w) (by rw [block_add]; exact hk)).trans h0, ht.fr hb hS⟩⟩
theorem Lists.fr {w w' : World} {B : Nat} {c : Cfg} {pa : Option Addr} {pn : Nat} {sa : Option Addr} {sn : Nat} {S : List Nat} (h : Lists w B c pa pn sa sn) (hb : Fr S w w') (hS : ∀ s, s ∈ S → s < B) : Lists w' B c pa pn sa sn := ⟨h.pr.fr hb hS, h.su.fr hb hS⟩
theorem OwnT.other {w : World} {base base' : Nat} {t t' : TypeId} {v : Value} {l l' : List T3} {x : Addr} {n c : Nat} (h : OwnT w base t v l) (h' : OwnT w base' t' (.slice (some x) n c) l') (hne : t ≠ t') {p : Addr} (hp : p.block = x.block) (u : Value) : OwnT (w.setCell p u) base t v l := by
  refine ⟨h.1, ?_⟩
  rcases h.2 with h4 | ⟨g2, cap, cur, rfl, h4, hgg, rest⟩
  · exact .inl h4
  · refine .inr ⟨g2, cap, cur, rfl, h4, (Below.heap_setCell w p u g2 (fun e => ?_)).trans hgg, rest⟩
    rcases h'.2 with ⟨h5, _⟩ | ⟨g3, cap3, cur3, h5, _, hg3, _⟩
    · cases h5
    · simp only [Value.slice.injEq, Option.some.injEq] at h5
      obtain ⟨rfl, _, _⟩ := h5
      have e' : g2 = g3 := e.trans hp
      subst e'
      rw [hgg] at hg3
      simp only [Option.some.injEq, Obj.cells.injEq] at hg3
      exact hne hg3.2.1
theorem ch_prog {w wc W : World} {B : Nat} {c : Cfg} {x : Addr} {pn pc : Nat} {sa : Option Addr} {sn sc : Nat} {x2 : Addr} {m cp : Nat} {p : List T3} (hbx : Blk wc w.heap.size 25 (cc c (some x) pn pc sa sn sc)) (hrs : Blk wc (w.heap.size + 1) 25 zero11)
    (hos : OwnT wc B 49 (.slice sa sn sc) c.su) (hls : Lists wc (w.heap.size + 2) c (some x) pn sa sn) (hwb : Below w.heap.size w wc) (hB : w.heap.size + 3 ≤ B) (htp : OwnT wc B 47 (.slice (some x2) m cp) p) (hb : Below wc.heap.size wc W)
    (q : Addr) (hq : q.block = x2.block) (u : Int) (hc : W.cell? q = some (.int .i64 u)) (v : Int) : ChB w B c (some x) pn pc sa sn sc (W.setCell q (.int .i64 v)) := by
  have h2 := (htp.lt x2.block rfl).1
  obtain ⟨pr, hpr, _⟩ := (hls.pr.below hb).put hc v
  have ho := (hos.below hb).other (htp.below hb) (by decide) hq (.int .i64 v)
  have hfr : ∀ k, k ≠ x2.block → (W.setCell q (.int .i64 v)).heap[k]? = W.heap[k]? := fun k hk => Below.heap_setCell W q _ k (fun e => hk (e.trans hq))
  refine ⟨pr, c.su, (hbx.below hb).of_same (hfr _ (by omega)), (hrs.below hb).of_same (hfr _ (by omega)), ho, ⟨hpr, (ho.tris ho.len).mono (by omega)⟩, (hwb.trans (hb.mono hwb.size)).setCell (by rw [hq]; omega) _⟩
theorem ch_sub {w wc W : World} {B : Nat} {c : Cfg} {x : Addr} {pn pc : Nat} {x2 : Addr} {sn sc : Nat} {pr : List (List T3)} {su : List T3} (hbx : Blk wc w.heap.size 25 (cc c (some x) pn pc (some x2) sn sc)) (hrs : Blk wc (w.heap.size + 1) 25 zero11)
    (hos : OwnT wc B 49 (.slice (some x2) sn sc) su) (hls : Lists wc (w.heap.size + 2) { c with pr := pr, su := su } (some x) pn (some x2) sn) (hwb : Below w.heap.size w wc) (hB : w.heap.size + 3 ≤ B) (hb : Below wc.heap.size wc W)
    (q : Addr) (hq : q.block = x2.block) (u : Int) (hc : W.cell? q = some (.int .i64 u)) (v : Int) : ChC w c (some x) pn pc (some x2) sn sc (W.setCell q (.int .i64 v)) := by
  have h2 := (hos.lt x2.block rfl).1
  obtain ⟨pr', su', hl⟩ := (hls.below hb).put hc v
  have hfr : ∀ k, k ≠ x2.block → (W.setCell q (.int .i64 v)).heap[k]? = W.heap[k]? := fun k hk => Below.heap_setCell W q _ k (fun e => hk (e.trans hq))
  exact ⟨pr', su', (hbx.below hb).of_same (hfr _ (by omega)), (hrs.below hb).of_same (hfr _ (by omega)), hl, (hwb.trans (hb.mono hwb.size)).setCell (by rw [hq]; omega) _⟩

set_option maxRecDepth 20000 in
set_option maxHeartbeats 8000000 in
theorem changed_any {w : World} {B0 : Nat} {c : Cfg} {pa : Option Addr} {pn : Nat} {sa : Option Addr} {sn : Nat} (h : Lists w B0 c pa pn sa sn) (pc sc : Nat) (which byv : Int) :
    Calls Try.prog 10 #[cv c pa pn pc sa sn sc, .int .i64 which, .int .i64 byv] w (Changed w) := by
  have HH := Lib.hid (h.mono (Nat.zero_le _))
  have hw1 : (w.alloc (.cells (cc c pa pn pc sa sn sc) 25)).heap.size = w.heap.size + 1 := by simp
  have hw2 : ((w.alloc (.cells (cc c pa pn pc sa sn sc) 25)).alloc (.cells zero11 25)).heap.size = w.heap.size + 2 := by simp
  have hw3 : (((w.alloc (.cells (cc c pa pn pc sa sn sc) 25)).alloc (.cells zero11 25)).alloc (.cells #[.pointer (some ⟨w.heap.size, 0, none⟩), .pointer (some ⟨w.heap.size, 1, none⟩), .pointer (some ⟨w.heap.size, 2, none⟩), .pointer (some ⟨w.heap.size, 3, none⟩), .pointer (some ⟨w.heap.size, 4, none⟩), .pointer (some ⟨w.heap.size, 5, none⟩), .pointer (some ⟨w.heap.size, 6, none⟩), .pointer (some ⟨w.heap.size, 7, none⟩), .pointer (some ⟨w.heap.size, 8, none⟩)] 52)).heap.size = w.heap.size + 3 := by simp
  have G1 := ((Blk.made w 25 (cc c pa pn pc sa sn sc)).alloc (.cells zero11 25)).alloc (.cells #[.pointer (some ⟨w.heap.size, 0, none⟩), .pointer (some ⟨w.heap.size, 1, none⟩), .pointer (some ⟨w.heap.size, 2, none⟩), .pointer (some ⟨w.heap.size, 3, none⟩), .pointer (some ⟨w.heap.size, 4, none⟩), .pointer (some ⟨w.heap.size, 5, none⟩), .pointer (some ⟨w.heap.size, 6, none⟩), .pointer (some ⟨w.heap.size, 7, none⟩), .pointer (some ⟨w.heap.size, 8, none⟩)] 52)
  have R1 := (Blk.made (w.alloc (.cells (cc c pa pn pc sa sn sc) 25)) 25 zero11).alloc (.cells #[.pointer (some ⟨w.heap.size, 0, none⟩), .pointer (some ⟨w.heap.size, 1, none⟩), .pointer (some ⟨w.heap.size, 2, none⟩), .pointer (some ⟨w.heap.size, 3, none⟩), .pointer (some ⟨w.heap.size, 4, none⟩), .pointer (some ⟨w.heap.size, 5, none⟩), .pointer (some ⟨w.heap.size, 6, none⟩), .pointer (some ⟨w.heap.size, 7, none⟩), .pointer (some ⟨w.heap.size, 8, none⟩)] 52)
  rw [hw1] at R1
  have P1 := Blk.made ((w.alloc (.cells (cc c pa pn pc sa sn sc) 25)).alloc (.cells zero11 25)) 52 #[.pointer (some ⟨w.heap.size, 0, none⟩), .pointer (some ⟨w.heap.size, 1, none⟩), .pointer (some ⟨w.heap.size, 2, none⟩), .pointer (some ⟨w.heap.size, 3, none⟩), .pointer (some ⟨w.heap.size, 4, none⟩), .pointer (some ⟨w.heap.size, 5, none⟩), .pointer (some ⟨w.heap.size, 6, none⟩), .pointer (some ⟨w.heap.size, 7, none⟩), .pointer (some ⟨w.heap.size, 8, none⟩)]
  rw [hw2] at P1
  have N1 := ints_one (((w.alloc (.cells (cc c pa pn pc sa sn sc) 25)).alloc (.cells zero11 25)).alloc (.cells #[.pointer (some ⟨w.heap.size, 0, none⟩), .pointer (some ⟨w.heap.size, 1, none⟩), .pointer (some ⟨w.heap.size, 2, none⟩), .pointer (some ⟨w.heap.size, 3, none⟩), .pointer (some ⟨w.heap.size, 4, none⟩), .pointer (some ⟨w.heap.size, 5, none⟩), .pointer (some ⟨w.heap.size, 6, none⟩), .pointer (some ⟨w.heap.size, 7, none⟩), .pointer (some ⟨w.heap.size, 8, none⟩)] 52)) which
  rw [hw3] at N1
  have HG := Lib.hid (G1.alloc (.cells #[.int .i64 which] 3))
  have HR := Lib.hid (R1.alloc (.cells #[.int .i64 which] 3))
  have HP := Lib.hid (P1.alloc (.cells #[.int .i64 which] 3))
  have HN := Lib.hid N1
  have HB := Lib.hid ((((below_one w (.cells (cc c pa pn pc sa sn sc) 25)).alloc (by simp <;> omega) (.cells zero11 25)).alloc (by simp <;> omega) (.cells #[.pointer (some ⟨w.heap.size, 0, none⟩), .pointer (some ⟨w.heap.size, 1, none⟩), .pointer (some ⟨w.heap.size, 2, none⟩), .pointer (some ⟨w.heap.size, 3, none⟩), .pointer (some ⟨w.heap.size, 4, none⟩), .pointer (some ⟨w.heap.size, 5, none⟩), .pointer (some ⟨w.heap.size, 6, none⟩), .pointer (some ⟨w.heap.size, 7, none⟩), .pointer (some ⟨w.heap.size, 8, none⟩)] 52)).alloc (by simp <;> omega) (.cells #[.int .i64 which] 3))
  clear G1 R1 P1 N1 hw1 hw2 hw3 h
  go_enter Try.func10, Try.ntmps10
  go_wp2_with fail
  generalize (((w.alloc (.cells (cc c pa pn pc sa sn sc) 25)).alloc (.cells zero11 25)).alloc (.cells #[.pointer (some ⟨w.heap.size, 0, none⟩), .pointer (some ⟨w.heap.size, 1, none⟩), .pointer (some ⟨w.heap.size, 2, none⟩), .pointer (some ⟨w.heap.size, 3, none⟩), .pointer (some ⟨w.heap.size, 4, none⟩), .pointer (some ⟨w.heap.size, 5, none⟩), .pointer (some ⟨w.heap.size, 6, none⟩), .pointer (some ⟨w.heap.size, 7, none⟩), .pointer (some ⟨w.heap.size, 8, none⟩)] 52)).alloc (.cells #[.int .i64 which] 3) = W1 at *
  (with_reducible refine (keepnum_z HN.out _ 15 (by omega) (by omega)).mono ?_)
  rintro e W2 ⟨y, hy, rfl, m, rfl⟩
  have hb := HB.out.trans ((below_drewN W1 m).mono HB.out.size)
  have HB2 := Lib.hid hb
  have HG2 := Lib.hid (show Blk (W1.drewN m) w.heap.size 25 (cc c pa pn pc sa sn sc) from HG.out)
  have HR2 := Lib.hid (show Blk (W1.drewN m) (w.heap.size + 1) 25 zero11 from HR.out)
  have HP2 := Lib.hid (show Blk (W1.drewN m) (w.heap.size + 2) 52 #[.pointer (some ⟨w.heap.size, 0, none⟩), .pointer (some ⟨w.heap.size, 1, none⟩), .pointer (some ⟨w.heap.size, 2, none⟩), .pointer (some ⟨w.heap.size, 3, none⟩), .pointer (some ⟨w.heap.size, 4, none⟩), .pointer (some ⟨w.heap.size, 5, none⟩), .pointer (some ⟨w.heap.size, 6, none⟩), .pointer (some ⟨w.heap.size, 7, none⟩), .pointer (some ⟨w.heap.size, 8, none⟩)] from HP.out)
  clear HG HR HP HN HB hb
  generalize W1.drewN m = W at *
  have hy15 : y < 15 := by omega
  clear hy
  by_cases hy9 : y < 9
  · have hcase : y = 0 ∨ y = 1 ∨ y = 2 ∨ y = 3 ∨ y = 4 ∨ y = 5 ∨ y = 6 ∨ y = 7 ∨ y = 8 := by omega
    clear hy9 hy15
    rcases hcase with rfl | rfl | rfl | rfl | rfl | rfl | rfl | rfl | rfl
    · have q := HP2.out.at_ 0
      have q1 : W.cell? ⟨w.heap.size + 2, 0, none⟩ = some (.pointer (some ⟨w.heap.size, 0, none⟩)) := q
      obtain ⟨e0, e1, e2, e3, e4, e5, e6, e7, e8, e9, e10⟩ := eleven HG2.out
      have ef := HG2.out.free 0
      have D := HR2.out
      have d0 := D.at_ 0
      have d1 := D.at_ 1
      have d2 := D.at_ 2
      have d3 := D.at_ 3
      have d4 := D.at_ 4
      have d5 := D.at_ 5
      have d6 := D.at_ 6
      have d7 := D.at_ 7
      have d8 := D.at_ 8
      have d9 := D.at_ 9
      have d10 := D.at_ 10
      have g0 := D.free 0
      have g1 := D.free 1
      have g2 := D.free 2
      have g3 := D.free 3
      have g4 := D.free 4
      have g5 := D.free 5
      have g6 := D.free 6
      have g7 := D.free 7
      have g8 := D.free 8
      have g9 := D.free 9
      have g10 := D.free 10
      clear q D
      go_wp2
      have hD := (HR2.out.of_same (Below.heap_setCell W ⟨w.heap.size, 0, none⟩ (.int .i64 byv) (w.heap.size + 1) (by show w.heap.size + 1 ≠ w.heap.size; omega))).put11 (.int .i64 byv) (.int .i64 c.le) (.int .i64 c.cl) (.int .i64 c.ta) (.int .i64 c.de) (.int .i64 c.he) (.int .i64 c.ba) (.int .i64 c.ag) (.int .i64 c.pa) (.slice pa pn pc) (.slice sa sn sc)
      have hF := fr11 (W.setCell ⟨w.heap.size, 0, none⟩ (.int .i64 byv)) (w.heap.size + 1) (.int .i64 byv) (.int .i64 c.le) (.int .i64 c.cl) (.int .i64 c.ta) (.int .i64 c.de) (.int .i64 c.he) (.int .i64 c.ba) (.int .i64 c.ag) (.int .i64 c.pa) (.slice pa pn pc) (.slice sa sn sc)
      refine bodyPost_ret (results_cell_row (P := Try.prog) Try.results10 _ _ (w.heap.size + 1) 25 _ (0, 0) _ rfl hD Try.underlying25 rfl (by kernel_rfl)) rfl ?_
      have hbl := fr_below (((Fr.old HB2.out : Fr [] w W).setCell (p := ⟨w.heap.size, 0, none⟩) (.inr (Nat.le_refl _)) (.int .i64 byv)).drop hF (fun x hx => by simp at hx; omega))
      exact ⟨_, { c with wo := byv }, rfl, ⟨pa, pn, pc, sa, sn, sc, rfl, ⟨(HH.out.below hbl).pr, (HH.out.below hbl).su⟩⟩, hbl⟩
    · have q := HP2.out.at_ 1
      have q1 : W.cell? ⟨w.heap.size + 2, 1, none⟩ = some (.pointer (some ⟨w.heap.size, 1, none⟩)) := q
      obtain ⟨e0, e1, e2, e3, e4, e5, e6, e7, e8, e9, e10⟩ := eleven HG2.out
      have ef := HG2.out.free 1
      have D := HR2.out
      have d0 := D.at_ 0
      have d1 := D.at_ 1
      have d2 := D.at_ 2
      have d3 := D.at_ 3
      have d4 := D.at_ 4
      have d5 := D.at_ 5
      have d6 := D.at_ 6
      have d7 := D.at_ 7
      have d8 := D.at_ 8
      have d9 := D.at_ 9
      have d10 := D.at_ 10
      have g0 := D.free 0
      have g1 := D.free 1
      have g2 := D.free 2
      have g3 := D.free 3
      have g4 := D.free 4
      have g5 := D.free 5
      have g6 := D.free 6
      have g7 := D.free 7
      have g8 := D.free 8
      have g9 := D.free 9
      have g10 := D.free 10
      clear q D
      go_wp2
      have hD := (HR2.out.of_same (Below.heap_setCell W ⟨w.heap.size, 1, none⟩ (.int .i64 byv) (w.heap.size + 1) (by show w.heap.size + 1 ≠ w.heap.size; omega))).put11 (.int .i64 c.wo) (.int .i64 byv) (.int .i64 c.cl) (.int .i64 c.ta) (.int .i64 c.de) (.int .i64 c.he) (.int .i64 c.ba) (.int .i64 c.ag) (.int .i64 c.pa) (.slice pa pn pc) (.slice sa sn sc)
      have hF := fr11 (W.setCell ⟨w.heap.size, 1, none⟩ (.int .i64 byv)) (w.heap.size + 1) (.int .i64 c.wo) (.int .i64 byv) (.int .i64 c.cl) (.int .i64 c.ta) (.int .i64 c.de) (.int .i64 c.he) (.int .i64 c.ba) (.int .i64 c.ag) (.int .i64 c.pa) (.slice pa pn pc) (.slice sa sn sc)
      refine bodyPost_ret (results_cell_row (P := Try.prog) Try.results10 _ _ (w.heap.size + 1) 25 _ (0, 0) _ rfl hD Try.underlying25 rfl (by kernel_rfl)) rfl ?_
      have hbl := fr_below (((Fr.old HB2.out : Fr [] w W).setCell (p := ⟨w.heap.size, 1, none⟩) (.inr (Nat.le_refl _)) (.int .i64 byv)).drop hF (fun x hx => by simp at hx; omega))
      exact ⟨_, { c with le := byv }, rfl, ⟨pa, pn, pc, sa, sn, sc, rfl, ⟨(HH.out.below hbl).pr, (HH.out.below hbl).su⟩⟩, hbl⟩
    · have q := HP2.out.at_ 2
      have q1 : W.cell? ⟨w.heap.size + 2, 2, none⟩ = some (.pointer (some ⟨w.heap.size, 2, none⟩)) := q
      obtain ⟨e0, e1, e2, e3, e4, e5, e6, e7, e8, e9, e10⟩ := eleven HG2.out
      have ef := HG2.out.free 2
      have D := HR2.out
      have d0 := D.at_ 0
      have d1 := D.at_ 1
      have d2 := D.at_ 2
      have d3 := D.at_ 3
      have d4 := D.at_ 4
      have d5 := D.at_ 5
      have d6 := D.at_ 6
      have d7 := D.at_ 7
      have d8 := D.at_ 8
      have d9 := D.at_ 9
      have d10 := D.at_ 10
      have g0 := D.free 0
      have g1 := D.free 1
      have g2 := D.free 2
      have g3 := D.free 3
      have g4 := D.free 4
      have g5 := D.free 5
      have g6 := D.free 6
      have g7 := D.free 7
      have g8 := D.free 8
      have g9 := D.free 9
      have g10 := D.free 10
      clear q D
      go_wp2
      have hD := (HR2.out.of_same (Below.heap_setCell W ⟨w.heap.size, 2, none⟩ (.int .i64 byv) (w.heap.size + 1) (by show w.heap.size + 1 ≠ w.heap.size; omega))).put11 (.int .i64 c.wo) (.int .i64 c.le) (.int .i64 byv) (.int .i64 c.ta) (.int .i64 c.de) (.int .i64 c.he) (.int .i64 c.ba) (.int .i64 c.ag) (.int .i64 c.pa) (.slice pa pn pc) (.slice sa sn sc)
      have hF := fr11 (W.setCell ⟨w.heap.size, 2, none⟩ (.int .i64 byv)) (w.heap.size + 1) (.int .i64 c.wo) (.int .i64 c.le) (.int .i64 byv) (.int .i64 c.ta) (.int .i64 c.de) (.int .i64 c.he) (.int .i64 c.ba) (.int .i64 c.ag) (.int .i64 c.pa) (.slice pa pn pc) (.slice sa sn sc)
      refine bodyPost_ret (results_cell_row (P := Try.prog) Try.results10 _ _ (w.heap.size + 1) 25 _ (0, 0) _ rfl hD Try.underlying25 rfl (by kernel_rfl)) rfl ?_
      have hbl := fr_below (((Fr.old HB2.out : Fr [] w W).setCell (p := ⟨w.heap.size, 2, none⟩) (.inr (Nat.le_refl _)) (.int .i64 byv)).drop hF (fun x hx => by simp at hx; omega))
      exact ⟨_, { c with cl := byv }, rfl, ⟨pa, pn, pc, sa, sn, sc, rfl, ⟨(HH.out.below hbl).pr, (HH.out.below hbl).su⟩⟩, hbl⟩
    · have q := HP2.out.at_ 3
      have q1 : W.cell? ⟨w.heap.size + 2, 3, none⟩ = some (.pointer (some ⟨w.heap.size, 3, none⟩)) := q
      obtain ⟨e0, e1, e2, e3, e4, e5, e6, e7, e8, e9, e10⟩ := eleven HG2.out
      have ef := HG2.out.free 3
      have D := HR2.out
      have d0 := D.at_ 0
      have d1 := D.at_ 1
      have d2 := D.at_ 2
      have d3 := D.at_ 3
      have d4 := D.at_ 4
      have d5 := D.at_ 5
      have d6 := D.at_ 6
      have d7 := D.at_ 7
      have d8 := D.at_ 8
      have d9 := D.at_ 9
      have d10 := D.at_ 10
      have g0 := D.free 0
      have g1 := D.free 1
      have g2 := D.free 2
      have g3 := D.free 3
      have g4 := D.free 4
      have g5 := D.free 5
      have g6 := D.free 6
      have g7 := D.free 7
      have g8 := D.free 8
      have g9 := D.free 9
      have g10 := D.free 10
      clear q D
      go_wp2
      have hD := (HR2.out.of_same (Below.heap_setCell W ⟨w.heap.size, 3, none⟩ (.int .i64 byv) (w.heap.size + 1) (by show w.heap.size + 1 ≠ w.heap.size; omega))).put11 (.int .i64 c.wo) (.int .i64 c.le) (.int .i64 c.cl) (.int .i64 byv) (.int .i64 c.de) (.int .i64 c.he) (.int .i64 c.ba) (.int .i64 c.ag) (.int .i64 c.pa) (.slice pa pn pc) (.slice sa sn sc)
      have hF := fr11 (W.setCell ⟨w.heap.size, 3, none⟩ (.int .i64 byv)) (w.heap.size + 1) (.int .i64 c.wo) (.int .i64 c.le) (.int .i64 c.cl) (.int .i64 byv) (.int .i64 c.de) (.int .i64 c.he) (.int .i64 c.ba) (.int .i64 c.ag) (.int .i64 c.pa) (.slice pa pn pc) (.slice sa sn sc)
      refine bodyPost_ret (results_cell_row (P := Try.prog) Try.results10 _ _ (w.heap.size + 1) 25 _ (0, 0) _ rfl hD Try.underlying25 rfl (by kernel_rfl)) rfl ?_
      have hbl := fr_below (((Fr.old HB2.out : Fr [] w W).setCell (p := ⟨w.heap.size, 3, none⟩) (.inr (Nat.le_refl _)) (.int .i64 byv)).drop hF (fun x hx => by simp at hx; omega))
      exact ⟨_, { c with ta := byv }, rfl, ⟨pa, pn, pc, sa, sn, sc, rfl, ⟨(HH.out.below hbl).pr, (HH.out.below hbl).su⟩⟩, hbl⟩
    · have q := HP2.out.at_ 4
      have q1 : W.cell? ⟨w.heap.size + 2, 4, none⟩ = some (.pointer (some ⟨w.heap.size, 4, none⟩)) := q
      obtain ⟨e0, e1, e2, e3, e4, e5, e6, e7, e8, e9, e10⟩ := eleven HG2.out
      have ef := HG2.out.free 4
      have D := HR2.out
      have d0 := D.at_ 0
      have d1 := D.at_ 1
      have d2 := D.at_ 2
      have d3 := D.at_ 3
      have d4 := D.at_ 4
      have d5 := D.at_ 5
      have d6 := D.at_ 6
      have d7 := D.at_ 7
      have d8 := D.at_ 8
      have d9 := D.at_ 9
      have d10 := D.at_ 10
      have g0 := D.free 0
      have g1 := D.free 1
      have g2 := D.free 2
      have g3 := D.free 3
      have g4 := D.free 4
      have g5 := D.free 5
      have g6 := D.free 6
      have g7 := D.free 7
      have g8 := D.free 8
      have g9 := D.free 9
      have g10 := D.free 10
      clear q D
      go_wp2
      have hD := (HR2.out.of_same (Below.heap_setCell W ⟨w.heap.size, 4, none⟩ (.int .i64 byv) (w.heap.size + 1) (by show w.heap.size + 1 ≠ w.heap.size; omega))).put11 (.int .i64 c.wo) (.int .i64 c.le) (.int .i64 c.cl) (.int .i64 c.ta) (.int .i64 byv) (.int .i64 c.he) (.int .i64 c.ba) (.int .i64 c.ag) (.int .i64 c.pa) (.slice pa pn pc) (.slice sa sn sc)
      have hF := fr11 (W.setCell ⟨w.heap.size, 4, none⟩ (.int .i64 byv)) (w.heap.size + 1) (.int .i64 c.wo) (.int .i64 c.le) (.int .i64 c.cl) (.int .i64 c.ta) (.int .i64 byv) (.int .i64 c.he) (.int .i64 c.ba) (.int .i64 c.ag) (.int .i64 c.pa) (.slice pa pn pc) (.slice sa sn sc)
      refine bodyPost_ret (results_cell_row (P := Try.prog) Try.results10 _ _ (w.heap.size + 1) 25 _ (0, 0) _ rfl hD Try.underlying25 rfl (by kernel_rfl)) rfl ?_
      have hbl := fr_below (((Fr.old HB2.out : Fr [] w W).setCell (p := ⟨w.heap.size, 4, none⟩) (.inr (Nat.le_refl _)) (.int .i64 byv)).drop hF (fun x hx => by simp at hx; omega))
      exact ⟨_, { c with de := byv }, rfl, ⟨pa, pn, pc, sa, sn, sc, rfl, ⟨(HH.out.below hbl).pr, (HH.out.below hbl).su⟩⟩, hbl⟩
    · have q := HP2.out.at_ 5
      have q1 : W.cell? ⟨w.heap.size + 2, 5, none⟩ = some (.pointer (some ⟨w.heap.size, 5, none⟩)) := q
      obtain ⟨e0, e1, e2, e3, e4, e5, e6, e7, e8, e9, e10⟩ := eleven HG2.out
      have ef := HG2.out.free 5
      have D := HR2.out
      have d0 := D.at_ 0
      have d1 := D.at_ 1
      have d2 := D.at_ 2
      have d3 := D.at_ 3
      have d4 := D.at_ 4
      have d5 := D.at_ 5
      have d6 := D.at_ 6
      have d7 := D.at_ 7
      have d8 := D.at_ 8
      have d9 := D.at_ 9
      have d10 := D.at_ 10
      have g0 := D.free 0
      have g1 := D.free 1
      have g2 := D.free 2
      have g3 := D.free 3
      have g4 := D.free 4
      have g5 := D.free 5
      have g6 := D.free 6
      have g7 := D.free 7
      have g8 := D.free 8
      have g9 := D.free 9
      have g10 := D.free 10
      clear q D
      go_wp2
      have hD := (HR2.out.of_same (Below.heap_setCell W ⟨w.heap.size, 5, none⟩ (.int .i64 byv) (w.heap.size + 1) (by show w.heap.size + 1 ≠ w.heap.size; omega))).put11 (.int .i64 c.wo) (.int .i64 c.le) (.int .i64 c.cl) (.int .i64 c.ta) (.int .i64 c.de) (.int .i64 byv) (.int .i64 c.ba) (.int .i64 c.ag) (.int .i64 c.pa) (.slice pa pn pc) (.slice sa sn sc)
      have hF := fr11 (W.setCell ⟨w.heap.size, 5, none⟩ (.int .i64 byv)) (w.heap.size + 1) (.int .i64 c.wo) (.int .i64 c.le) (.int .i64 c.cl) (.int .i64 c.ta) (.int .i64 c.de) (.int .i64 byv) (.int .i64 c.ba) (.int .i64 c.ag) (.int .i64 c.pa) (.slice pa pn pc) (.slice sa sn sc)
      refine bodyPost_ret (results_cell_row (P := Try.prog) Try.results10 _ _ (w.heap.size + 1) 25 _ (0, 0) _ rfl hD Try.underlying25 rfl (by kernel_rfl)) rfl ?_
      have hbl := fr_below (((Fr.old HB2.out : Fr [] w W).setCell (p := ⟨w.heap.size, 5, none⟩) (.inr (Nat.le_refl _)) (.int .i64 byv)).drop hF (fun x hx => by simp at hx; omega))
      exact ⟨_, { c with he := byv }, rfl, ⟨pa, pn, pc, sa, sn, sc, rfl, ⟨(HH.out.below hbl).pr, (HH.out.below hbl).su⟩⟩, hbl⟩
    · have q := HP2.out.at_ 6
      have q1 : W.cell? ⟨w.heap.size + 2, 6, none⟩ = some (.pointer (some ⟨w.heap.size, 6, none⟩)) := q
      obtain ⟨e0, e1, e2, e3, e4, e5, e6, e7, e8, e9, e10⟩ := eleven HG2.out
      have ef := HG2.out.free 6
      have D := HR2.out
      have d0 := D.at_ 0
      have d1 := D.at_ 1
      have d2 := D.at_ 2
      have d3 := D.at_ 3
      have d4 := D.at_ 4
      have d5 := D.at_ 5
      have d6 := D.at_ 6
      have d7 := D.at_ 7
      have d8 := D.at_ 8
      have d9 := D.at_ 9
      have d10 := D.at_ 10
      have g0 := D.free 0
      have g1 := D.free 1
      have g2 := D.free 2
      have g3 := D.free 3
      have g4 := D.free 4
      have g5 := D.free 5
      have g6 := D.free 6
      have g7 := D.free 7
      have g8 := D.free 8
      have g9 := D.free 9
      have g10 := D.free 10
      clear q D
      go_wp2
      have hD := (HR2.out.of_same (Below.heap_setCell W ⟨w.heap.size, 6, none⟩ (.int .i64 byv) (w.heap.size + 1) (by show w.heap.size + 1 ≠ w.heap.size; omega))).put11 (.int .i64 c.wo) (.int .i64 c.le) (.int .i64 c.cl) (.int .i64 c.ta) (.int .i64 c.de) (.int .i64 c.he) (.int .i64 byv) (.int .i64 c.ag) (.int .i64 c.pa) (.slice pa pn pc) (.slice sa sn sc)
      have hF := fr11 (W.setCell ⟨w.heap.size, 6, none⟩ (.int .i64 byv)) (w.heap.size + 1) (.int .i64 c.wo) (.int .i64 c.le) (.int .i64 c.cl) (.int .i64 c.ta) (.int .i64 c.de) (.int .i64 c.he) (.int .i64 byv) (.int .i64 c.ag) (.int .i64 c.pa) (.slice pa pn pc) (.slice sa sn sc)
      refine bodyPost_ret (results_cell_row (P := Try.prog) Try.results10 _ _ (w.heap.size + 1) 25 _ (0, 0) _ rfl hD Try.underlying25 rfl (by kernel_rfl)) rfl ?_
      have hbl := fr_below (((Fr.old HB2.out : Fr [] w W).setCell (p := ⟨w.heap.size, 6, none⟩) (.inr (Nat.le_refl _)) (.int .i64 byv)).drop hF (fun x hx => by simp at hx; omega))
      exact ⟨_, { c with ba := byv }, rfl, ⟨pa, pn, pc, sa, sn, sc, rfl, ⟨(HH.out.below hbl).pr, (HH.out.below hbl).su⟩⟩, hbl⟩
    · have q := HP2.out.at_ 7
      have q1 : W.cell? ⟨w.heap.size + 2, 7, none⟩ = some (.pointer (some ⟨w.heap.size, 7, none⟩)) := q
      obtain ⟨e0, e1, e2, e3, e4, e5, e6, e7, e8, e9, e10⟩ := eleven HG2.out
      have ef := HG2.out.free 7
      have D := HR2.out
      have d0 := D.at_ 0
      have d1 := D.at_ 1
      have d2 := D.at_ 2
      have d3 := D.at_ 3
      have d4 := D.at_ 4
      have d5 := D.at_ 5
      have d6 := D.at_ 6
      have d7 := D.at_ 7
      have d8 := D.at_ 8
      have d9 := D.at_ 9
      have d10 := D.at_ 10
      have g0 := D.free 0
      have g1 := D.free 1
      have g2 := D.free 2
      have g3 := D.free 3
      have g4 := D.free 4
      have g5 := D.free 5
      have g6 := D.free 6
      have g7 := D.free 7
      have g8 := D.free 8
      have g9 := D.free 9
      have g10 := D.free 10
      clear q D
      go_wp2
      have hD := (HR2.out.of_same (Below.heap_setCell W ⟨w.heap.size, 7, none⟩ (.int .i64 byv) (w.heap.size + 1) (by show w.heap.size + 1 ≠ w.heap.size; omega))).put11 (.int .i64 c.wo) (.int .i64 c.le) (.int .i64 c.cl) (.int .i64 c.ta) (.int .i64 c.de) (.int .i64 c.he) (.int .i64 c.ba) (.int .i64 byv) (.int .i64 c.pa) (.slice pa pn pc) (.slice sa sn sc)
      have hF := fr11 (W.setCell ⟨w.heap.size, 7, none⟩ (.int .i64 byv)) (w.heap.size + 1) (.int .i64 c.wo) (.int .i64 c.le) (.int .i64 c.cl) (.int .i64 c.ta) (.int .i64 c.de) (.int .i64 c.he) (.int .i64 c.ba) (.int .i64 byv) (.int .i64 c.pa) (.slice pa pn pc) (.slice sa sn sc)
      refine bodyPost_ret (results_cell_row (P := Try.prog) Try.results10 _ _ (w.heap.size + 1) 25 _ (0, 0) _ rfl hD Try.underlying25 rfl (by kernel_rfl)) rfl ?_
      have hbl := fr_below (((Fr.old HB2.out : Fr [] w W).setCell (p := ⟨w.heap.size, 7, none⟩) (.inr (Nat.le_refl _)) (.int .i64 byv)).drop hF (fun x hx => by simp at hx; omega))
      exact ⟨_, { c with ag := byv }, rfl, ⟨pa, pn, pc, sa, sn, sc, rfl, ⟨(HH.out.below hbl).pr, (HH.out.below hbl).su⟩⟩, hbl⟩
    · have q := HP2.out.at_ 8
      have q1 : W.cell? ⟨w.heap.size + 2, 8, none⟩ = some (.pointer (some ⟨w.heap.size, 8, none⟩)) := q
      obtain ⟨e0, e1, e2, e3, e4, e5, e6, e7, e8, e9, e10⟩ := eleven HG2.out
      have ef := HG2.out.free 8
      have D := HR2.out
      have d0 := D.at_ 0
      have d1 := D.at_ 1
      have d2 := D.at_ 2
      have d3 := D.at_ 3
      have d4 := D.at_ 4
      have d5 := D.at_ 5
      have d6 := D.at_ 6
      have d7 := D.at_ 7
      have d8 := D.at_ 8
      have d9 := D.at_ 9
      have d10 := D.at_ 10
      have g0 := D.free 0
      have g1 := D.free 1
      have g2 := D.free 2
      have g3 := D.free 3
      have g4 := D.free 4
      have g5 := D.free 5
      have g6 := D.free 6
      have g7 := D.free 7
      have g8 := D.free 8
      have g9 := D.free 9
      have g10 := D.free 10
      clear q D
      go_wp2
      have hD := (HR2.out.of_same (Below.heap_setCell W ⟨w.heap.size, 8, none⟩ (.int .i64 byv) (w.heap.size + 1) (by show w.heap.size + 1 ≠ w.heap.size; omega))).put11 (.int .i64 c.wo) (.int .i64 c.le) (.int .i64 c.cl) (.int .i64 c.ta) (.int .i64 c.de) (.int .i64 c.he) (.int .i64 c.ba) (.int .i64 c.ag) (.int .i64 byv) (.slice pa pn pc) (.slice sa sn sc)
      have hF := fr11 (W.setCell ⟨w.heap.size, 8, none⟩ (.int .i64 byv)) (w.heap.size + 1) (.int .i64 c.wo) (.int .i64 c.le) (.int .i64 c.cl) (.int .i64 c.ta) (.int .i64 c.de) (.int .i64 c.he) (.int .i64 c.ba) (.int .i64 c.ag) (.int .i64 byv) (.slice pa pn pc) (.slice sa sn sc)
      refine bodyPost_ret (results_cell_row (P := Try.prog) Try.results10 _ _ (w.heap.size + 1) 25 _ (0, 0) _ rfl hD Try.underlying25 rfl (by kernel_rfl)) rfl ?_
      have hbl := fr_below (((Fr.old HB2.out : Fr [] w W).setCell (p := ⟨w.heap.size, 8, none⟩) (.inr (Nat.le_refl _)) (.int .i64 byv)).drop hF (fun x hx => by simp at hx; omega))
      exact ⟨_, { c with pa := byv }, rfl, ⟨pa, pn, pc, sa, sn, sc, rfl, ⟨(HH.out.below hbl).pr, (HH.out.below hbl).su⟩⟩, hbl⟩
  · have hy0 : (9 : Int) ≤ y := by omega
    have hy1 : (y : Int) < 15 := by omega
    clear hy9 hy15
    obtain ⟨e0, e1, e2, e3, e4, e5, e6, e7, e8, e9, e10⟩ := eleven HG2.out
    go_upto_region 6 with fail
    go_cut [42] from 42 to 44 (fun _ wx => ChA w wx)
    case first =>
      go_wp2_with fail
      (with_reducible refine (bytes_any (HH.out.below HB2.out) _ _).mono ?_)
      rintro e W3 ⟨a3, n3, cp3, zs, rfl, hi, hb⟩
      have HI := Lib.hid hi
      have HB3 := Lib.hid (HB2.out.trans (hb.mono HB2.out.size))
      have HG3 := Lib.hid (HG2.out.below hb)
      have HR3 := Lib.hid (HR2.out.below hb)
      have HP3 := Lib.hid (HP2.out.below hb)
      clear hi hb e0 e1 e2 e3 e4 e5 e6 e7 e8 e9 e10
      go_wp2_with fail
      (with_reducible refine (rdecode_any HI.out _).mono ?_)
      rintro e W4 ⟨v4, rfl, hc4, hb⟩
      have hsz := dec_sizes (strm zs)
      have hea := dec_each (strm zs)
      generalize decC (strm zs) = c4 at *
      obtain ⟨qa, qn, qc, ta, tn, tc, rfl, hop, hos, hl⟩ := hc4
      have HSZ := Lib.hid hsz
      have HEA := Lib.hid hea
      have HLT := Lib.hid HP3.out.lt
      have HB4 := Lib.hid (HB3.out.trans (hb.mono HB3.out.size))
      have HG4 := Lib.hid (HG3.out.below hb)
      have HR4 := Lib.hid (HR3.out.below hb)
      have HO := Lib.hid hop
      have HS := Lib.hid hos
      have HL := Lib.hid hl
      have D := HG4.out
      have d0 := D.at_ 0
      have d1 := D.at_ 1
      have d2 := D.at_ 2
      have d3 := D.at_ 3
      have d4 := D.at_ 4
      have d5 := D.at_ 5
      have d6 := D.at_ 6
      have d7 := D.at_ 7
      have d8 := D.at_ 8
      have d9 := D.at_ 9
      have d10 := D.at_ 10
      have g0 := D.free 0
      have g1 := D.free 1
      have g2 := D.free 2
      have g3 := D.free 3
      have g4 := D.free 4
      have g5 := D.free 5
      have g6 := D.free 6
      have g7 := D.free 7
      have g8 := D.free 8
      have g9 := D.free 9
      have g10 := D.free 10
      clear hsz hea hop hos hl hb D
      go_wp2_with fail
      go_meet
      case rel =>
        have hF := fr11 W4 w.heap.size (.int .i64 c4.wo) (.int .i64 c4.le) (.int .i64 c4.cl) (.int .i64 c4.ta) (.int .i64 c4.de) (.int .i64 c4.he) (.int .i64 c4.ba) (.int .i64 c4.ag) (.int .i64 c4.pa) (.slice qa qn qc) (.slice ta tn tc)
        refine ⟨c4, W3.heap.size, qa, qn, qc, ta, tn, tc, HG4.out.put11 (.int .i64 c4.wo) (.int .i64 c4.le) (.int .i64 c4.cl) (.int .i64 c4.ta) (.int .i64 c4.de) (.int .i64 c4.he) (.int .i64 c4.ba) (.int .i64 c4.ag) (.int .i64 c4.pa) (.slice qa qn qc) (.slice ta tn tc), HR4.out.of_same (hF.block _ HR4.out.lt (by simp)), HO.out.fr hF (fun s hs => by simp at hs; have := HLT.out; omega), HS.out.fr hF (fun s hs => by simp at hs; have := HLT.out; omega), (fr_below ((Fr.old HB4.out : Fr [] w W4).drop hF (fun x hx => by simp at hx; omega))), by have := HLT.out; omega, HSZ.out.1, HSZ.out.2.1, HSZ.out.2.2, HEA.out⟩
    case rest =>
      clear e0 e1 e2 e3 e4 e5 e6 e7 e8 e9 e10
      obtain ⟨c5, B, qa, qn, qc, ta, tn, tc, hbox, hres, hop, hos, hb, hB, h1, h4, h5, h6⟩ := hcut
      have hqn : c5.pr.length = qn := hop.len
      have HQN := Lib.hid hqn
      have htn : c5.su.length = tn := hos.len
      have HTN := Lib.hid htn
      obtain ⟨x, b, m, cp, p, rfl, hp, hx, hc0, htp, hpm⟩ := hop.at_ hqn (i := 0) (by omega)
      rw [add_zero] at hc0
      have hm5 : m ≤ 5 := by rw [← hpm]; exact h6 _ (List.mem_of_getElem? hp)
      have hqp : 0 < qn := by omega
      have htn5 : tn ≤ 5 := by omega
      have e9 : wc.cell? ⟨w.heap.size, 9, none⟩ = some (.slice (some x) qn qc) := hbox.at_ 9
      have HX := Lib.hid hx
      have HBX := Lib.hid hbox
      have HRS := Lib.hid hres
      have HOP := Lib.hid hop
      have HOS := Lib.hid hos
      have HWB := Lib.hid hb
      have HTP := Lib.hid htp
      have HPM := Lib.hid hpm
      have HLS := Lib.hid (show Lists wc (w.heap.size + 2) c5 (some x) qn ta tn from ⟨(hop.prgs hqn).mono (by omega), (hos.tris htn).mono (by omega)⟩)
      clear hbox hres hop hos hb h1 h4 h5 h6 hqn htn hp hx htp hpm
      go_upto_if 51 with fail
      go_cut [10, 11] from 50 to 78 (fun _ _ wx => ChB w B c5 (some x) qn qc ta tn tc wx)
      case first =>
        by_cases hm : 0 < m
        case neg =>
          go_wp2_with fail
          go_meet
          case rel => exact ⟨c5.pr, c5.su, HBX.out, HRS.out, HOS.out, HLS.out, HWB.out⟩
        have hm0 : (0 : Int) < m := by omega
        obtain ⟨x2, _, _, _, rfl, _⟩ := HTP.out.cellF HPM.out (i := 0) hm
        have hbA := below_drew (below_one wc (.cells #[.int .i64 (IntKind.i64.wrap (which.tdiv 15))] 3))
        have HNUM := Lib.hid (show Calls Try.prog 19 #[.slice (some ⟨wc.heap.size, 0, none⟩) 1 1, .int .i64 0, .int .i64 m] (wc.alloc (.cells #[.int .i64 (IntKind.i64.wrap (which.tdiv 15))] 3)).drew (NumR m (wc.alloc (.cells #[.int .i64 (IntKind.i64.wrap (which.tdiv 15))] 3)).drew) from keepnum_z (show InInts (wc.alloc (.cells #[.int .i64 (IntKind.i64.wrap (which.tdiv 15))] 3)).drew _ _ [IntKind.i64.wrap (which.tdiv 15)] from ints_one wc _) 1 m (by omega) (by omega))
        have k9 : wc.drew.cell? ⟨w.heap.size, 9, none⟩ = some (.slice (some x) qn qc) := e9
        have kx : wc.drew.cell? x = some (.slice (some x2) m cp) := hc0
        have a9 : (wc.alloc (.cells #[.int .i64 (IntKind.i64.wrap (which.tdiv 15))] 3)).drew.cell? ⟨w.heap.size, 9, none⟩ = some (.slice (some x) qn qc) := (hbA.cell (World.block_lt_of_cell? _ _ e9)).trans e9
        have ax : (wc.alloc (.cells #[.int .i64 (IntKind.i64.wrap (which.tdiv 15))] 3)).drew.cell? x = some (.slice (some x2) m cp) := (hbA.cell HX.out).trans hc0
        have HBA := Lib.hid hbA
        clear hbA
        go_wp2_with fail
        go_region_held3 (fun w' => w'.cell? ⟨w.heap.size, 9, none⟩ = some (.slice (some x) qn qc) ∧ w'.cell? x = some (.slice (some x2) m cp)) ((first | exact ⟨a9, ax⟩ | go_keep))
          ((go_at_call 19
            refine HNUM.out.mono ?_
            rintro e w9 ⟨y9, hy9, rfl, m9, rfl⟩
            have d9 : ((wc.alloc (.cells #[.int .i64 (IntKind.i64.wrap (which.tdiv 15))] 3)).drew.drewN m9).cell? ⟨w.heap.size, 9, none⟩ = some (.slice (some x) qn qc) := a9
            have dx : ((wc.alloc (.cells #[.int .i64 (IntKind.i64.wrap (which.tdiv 15))] 3)).drew.drewN m9).cell? x = some (.slice (some x2) m cp) := ax))
        have hbn : Below wc.heap.size wc ((wc.alloc (.cells #[.int .i64 (IntKind.i64.wrap (which.tdiv 15))] 3)).drewN (1 + m9)) := (below_one wc _).trans ((below_drewN _ _).mono (by simp))
        have HBN := Lib.hid hbn
        clear k9 kx a9 ax d9 dx HBA HNUM e9 hc0 hbn
        generalize (wc.alloc (.cells #[.int .i64 (IntKind.i64.wrap (which.tdiv 15))] 3)).drewN (1 + m9) = W9 at *
        obtain ⟨x3, o3, p3, q3, ee, hBx, c0, c1, c2, f0, f1, f2⟩ := (HTP.out.below HBN.out).cellF HPM.out (i := y9) (by omega)
        cases ee
        go_wp2_with fail
        go_region
        have hPB : Blk (W9.alloc (.cells #[.pointer (some (x2.add (y9 * 3))), .pointer (some ⟨(x2.add (y9 * 3)).block, (x2.add (y9 * 3)).off + 1, none⟩), .pointer (some ⟨(x2.add (y9 * 3)).block, (x2.add (y9 * 3)).off + 2, none⟩)] 52)).drew W9.heap.size 52 #[.pointer (some (x2.add (y9 * 3))), .pointer (some ⟨(x2.add (y9 * 3)).block, (x2.add (y9 * 3)).off + 1, none⟩), .pointer (some ⟨(x2.add (y9 * 3)).block, (x2.add (y9 * 3)).off + 2, none⟩)] := Blk.made W9 _ _
        have hb10 : Below W9.heap.size W9 (W9.alloc (.cells #[.pointer (some (x2.add (y9 * 3))), .pointer (some ⟨(x2.add (y9 * 3)).block, (x2.add (y9 * 3)).off + 1, none⟩), .pointer (some ⟨(x2.add (y9 * 3)).block, (x2.add (y9 * 3)).off + 2, none⟩)] 52)).drew := below_drew (below_one W9 _)
        have j0 := (hb10.cell (World.block_lt_of_cell? _ _ c0)).trans c0
        have j1 := (hb10.cell (World.block_lt_of_cell? _ _ c1)).trans c1
        have j2 := (hb10.cell (World.block_lt_of_cell? _ _ c2)).trans c2
        have k0 := (hb10.frozen (World.block_lt_of_cell? _ _ c0)).trans f0
        have k1 := (hb10.frozen (World.block_lt_of_cell? _ _ c1)).trans f1
        have k2 := (hb10.frozen (World.block_lt_of_cell? _ _ c2)).trans f2
        have q0 := hPB.at_ 0
        have q1 := hPB.at_ 1
        have q2 := hPB.at_ 2
        simp only [List.getElem?_toArray, List.getElem?_cons_zero, List.getElem?_cons_succ] at q0 q1 q2
        have HB10 := Lib.hid (HBN.out.trans (hb10.mono HBN.out.size))
        clear hPB hb10 c0 c1 c2 f0 f1 f2
        generalize (W9.alloc (.cells #[.pointer (some (x2.add (y9 * 3))), .pointer (some ⟨(x2.add (y9 * 3)).block, (x2.add (y9 * 3)).off + 1, none⟩), .pointer (some ⟨(x2.add (y9 * 3)).block, (x2.add (y9 * 3)).off + 2, none⟩)] 52)).drew = W10 at *
        have hy3 : (y : Int) % 3 = 0 ∨ (y : Int) % 3 = 1 ∨ (y : Int) % 3 = 2 := by omega
        rcases hy3 with hy3 | hy3 | hy3
        · go_wp2_with fail
          go_meet
          case rel => exact ch_prog HBX.out HRS.out HOS.out HLS.out HWB.out hB HTP.out HB10.out _ (block_add _ _) _ j0 _
        · go_wp2_with fail
          go_meet
          case rel => exact ch_prog HBX.out HRS.out HOS.out HLS.out HWB.out hB HTP.out HB10.out ⟨(x2.add (y9 * 3)).block, (x2.add (y9 * 3)).off + 1, none⟩ (show (x2.add (y9 * 3)).block = x2.block from block_add _ _) _ j1 _
        · go_wp2_with fail
          go_meet
          case rel => exact ch_prog HBX.out HRS.out HOS.out HLS.out HWB.out hB HTP.out HB10.out ⟨(x2.add (y9 * 3)).block, (x2.add (y9 * 3)).off + 2, none⟩ (show (x2.add (y9 * 3)).block = x2.block from block_add _ _) _ j2 _
      case rest =>
        obtain ⟨pr, su, hbx, hrs, hos, hls, hwb⟩ := hcut
        clear HBX HRS HOP HOS HWB HTP HPM HLS HX e9 hc0
        have e10 : wc.cell? ⟨w.heap.size, 10, none⟩ = some (.slice ta tn tc) := hbx.at_ 10
        have HBX := Lib.hid hbx
        have HRS := Lib.hid hrs
        have HOS := Lib.hid hos
        have HLS := Lib.hid hls
        have HWB := Lib.hid hwb
        have HSU := Lib.hid hos.len
        clear hbx hrs hos hls hwb
        go_upto_region 13 with fail
        obtain ⟨bb, hbb⟩ : ∃ bb : Bool, decide (0 < tn ∧ (y : Int) % 2 = 0) = bb := ⟨_, rfl⟩
        have HBB := Lib.hid hbb
        clear hbb
        go_cut [88] from 82 to 88 (fun s88 wx => s88 = .bool bb ∧ ChB w B c5 (some x) qn qc ta tn tc wx)
        case first =>
          by_cases ht0 : 0 < tn
          case neg =>
            obtain rfl : bb = false := HBB.out.symm.trans (by simp; omega)
            go_wp2_with fail
            go_meet
            case rel => exact ⟨rfl, pr, su, HBX.out, HRS.out, HOS.out, HLS.out, HWB.out⟩
          have ht1 : (0 : Int) < tn := by omega
          by_cases hev : (y : Int) % 2 = 0
          case neg =>
            have hev1 : (y : Int) % 2 = 1 := by omega
            obtain rfl : bb = false := HBB.out.symm.trans (by simp; omega)
            clear hev
            go_wp2_with fail
            go_meet
            case rel => exact ⟨rfl, pr, su, HBX.out, HRS.out, HOS.out, HLS.out, HWB.out⟩
          obtain rfl : bb = true := HBB.out.symm.trans (decide_eq_true ⟨ht0, hev⟩)
          go_wp2_with fail
          go_meet
          case rel => exact ⟨rfl, pr, su, HBX.out, HRS.out, HOS.out, HLS.out, HWB.out⟩
        case rest =>
        clear HBX HRS HOS HLS HWB HSU e10
        obtain ⟨rfl, pr, su, hbx, hrs, hos, hls, hwb⟩ := hcut
        have e10 : wc.cell? ⟨w.heap.size, 10, none⟩ = some (.slice ta tn tc) := hbx.at_ 10
        have HBX := Lib.hid hbx
        have HRS := Lib.hid hrs
        have HOS := Lib.hid hos
        have HLS := Lib.hid hls
        have HWB := Lib.hid hwb
        have HSU := Lib.hid hos.len
        clear hbx hrs hos hls hwb
        go_upto_if 88 with fail
        go_cut [13, 14] from 88 to 113 (fun _ _ wx => ChC w c5 (some x) qn qc ta tn tc wx)
        case first =>
          cases bb with
          | false =>
            go_wp2_with fail
            go_meet
            case rel => exact ⟨pr, su, HBX.out, HRS.out, HLS.out, HWB.out⟩
          | true =>
          have ht0 : 0 < tn := (of_decide_eq_true HBB.out).1
          obtain ⟨x2, _, _, _, rfl, _⟩ := HOS.out.cellF HSU.out (i := 0) ht0
          have hbA := below_drew (below_one wc (.cells #[.int .i64 (IntKind.i64.wrap (which.tdiv 15))] 3))
          have HNUM := Lib.hid (show Calls Try.prog 19 #[.slice (some ⟨wc.heap.size, 0, none⟩) 1 1, .int .i64 0, .int .i64 tn] (wc.alloc (.cells #[.int .i64 (IntKind.i64.wrap (which.tdiv 15))] 3)).drew (NumR tn (wc.alloc (.cells #[.int .i64 (IntKind.i64.wrap (which.tdiv 15))] 3)).drew) from keepnum_z (show InInts (wc.alloc (.cells #[.int .i64 (IntKind.i64.wrap (which.tdiv 15))] 3)).drew _ _ [IntKind.i64.wrap (which.tdiv 15)] from ints_one wc _) 1 tn (by omega) (by omega))
          have k10 : wc.drew.cell? ⟨w.heap.size, 10, none⟩ = some (.slice (some x2) tn tc) := e10
          have a10 : (wc.alloc (.cells #[.int .i64 (IntKind.i64.wrap (which.tdiv 15))] 3)).drew.cell? ⟨w.heap.size, 10, none⟩ = some (.slice (some x2) tn tc) := (hbA.cell (World.block_lt_of_cell? _ _ e10)).trans e10
          clear hbA
          go_wp2_with fail
          go_region_held3 (fun w' => w'.cell? ⟨w.heap.size, 10, none⟩ = some (.slice (some x2) tn tc)) ((first | exact a10 | go_keep))
            ((go_at_call 19
              refine HNUM.out.mono ?_
              rintro e w9 ⟨y9, hy9, rfl, m9, rfl⟩
              have d10 : ((wc.alloc (.cells #[.int .i64 (IntKind.i64.wrap (which.tdiv 15))] 3)).drew.drewN m9).cell? ⟨w.heap.size, 10, none⟩ = some (.slice (some x2) tn tc) := a10))
          have hbn : Below wc.heap.size wc ((wc.alloc (.cells #[.int .i64 (IntKind.i64.wrap (which.tdiv 15))] 3)).drewN (1 + m9)) := (below_one wc _).trans ((below_drewN _ _).mono (by simp))
          have HBN := Lib.hid hbn
          clear k10 a10 d10 HNUM e10 hbn
          generalize (wc.alloc (.cells #[.int .i64 (IntKind.i64.wrap (which.tdiv 15))] 3)).drewN (1 + m9) = W9 at *
          obtain ⟨x3, o3, p3, q3, ee, hBx, c0, c1, c2, f0, f1, f2⟩ := (HOS.out.below HBN.out).cellF HSU.out (i := y9) (by omega)
          cases ee
          go_wp2_with fail
          go_region
          have hPB : Blk (W9.alloc (.cells #[.pointer (some (x2.add (y9 * 3))), .pointer (some ⟨(x2.add (y9 * 3)).block, (x2.add (y9 * 3)).off + 1, none⟩), .pointer (some ⟨(x2.add (y9 * 3)).block, (x2.add (y9 * 3)).off + 2, none⟩)] 52)).drew W9.heap.size 52 #[.pointer (some (x2.add (y9 * 3))), .pointer (some ⟨(x2.add (y9 * 3)).block, (x2.add (y9 * 3)).off + 1, none⟩), .pointer (some ⟨(x2.add (y9 * 3)).block, (x2.add (y9 * 3)).off + 2, none⟩)] := Blk.made W9 _ _
          have hb10 : Below W9.heap.size W9 (W9.alloc (.cells #[.pointer (some (x2.add (y9 * 3))), .pointer (some ⟨(x2.add (y9 * 3)).block, (x2.add (y9 * 3)).off + 1, none⟩), .pointer (some ⟨(x2.add (y9 * 3)).block, (x2.add (y9 * 3)).off + 2, none⟩)] 52)).drew := below_drew (below_one W9 _)
          have j0 := (hb10.cell (World.block_lt_of_cell? _ _ c0)).trans c0
          have j1 := (hb10.cell (World.block_lt_of_cell? _ _ c1)).trans c1
          have j2 := (hb10.cell (World.block_lt_of_cell? _ _ c2)).trans c2
          have k0 := (hb10.frozen (World.block_lt_of_cell? _ _ c0)).trans f0
          have k1 := (hb10.frozen (World.block_lt_of_cell? _ _ c1)).trans f1
          have k2 := (hb10.frozen (World.block_lt_of_cell? _ _ c2)).trans f2
          have q0 := hPB.at_ 0
          have q1 := hPB.at_ 1
          have q2 := hPB.at_ 2
          simp only [List.getElem?_toArray, List.getElem?_cons_zero, List.getElem?_cons_succ] at q0 q1 q2
          have HB10 := Lib.hid (HBN.out.trans (hb10.mono HBN.out.size))
          clear hPB hb10 c0 c1 c2 f0 f1 f2
          generalize (W9.alloc (.cells #[.pointer (some (x2.add (y9 * 3))), .pointer (some ⟨(x2.add (y9 * 3)).block, (x2.add (y9 * 3)).off + 1, none⟩), .pointer (some ⟨(x2.add (y9 * 3)).block, (x2.add (y9 * 3)).off + 2, none⟩)] 52)).drew = W10 at *
          have hy3 : (y : Int) % 3 = 0 ∨ (y : Int) % 3 = 1 ∨ (y : Int) % 3 = 2 := by omega
          rcases hy3 with hy3 | hy3 | hy3
          · go_wp2_with fail
            go_meet
            case rel => exact ch_sub HBX.out HRS.out HOS.out HLS.out HWB.out hB HB10.out _ (block_add _ _) _ j0 _
          · go_wp2_with fail
            go_meet
            case rel => exact ch_sub HBX.out HRS.out HOS.out HLS.out HWB.out hB HB10.out ⟨(x2.add (y9 * 3)).block, (x2.add (y9 * 3)).off + 1, none⟩ (show (x2.add (y9 * 3)).block = x2.block from block_add _ _) _ j1 _
          · go_wp2_with fail
            go_meet
            case rel => exact ch_sub HBX.out HRS.out HOS.out HLS.out HWB.out hB HB10.out ⟨(x2.add (y9 * 3)).block, (x2.add (y9 * 3)).off + 2, none⟩ (show (x2.add (y9 * 3)).block = x2.block from block_add _ _) _ j2 _
        case rest =>
          obtain ⟨pr, su, hbx, hrs, hls, hwb⟩ := hcut
          clear HBX HRS HOS HLS HWB HSU e10
          obtain ⟨e0, e1, e2, e3, e4, e5, e6, e7, e8, e9, e10⟩ := eleven hbx
          have HBX := Lib.hid hbx
          have HRS := Lib.hid hrs
          have HLS := Lib.hid hls
          have HWB := Lib.hid hwb
          have D := hrs
          have d0 := D.at_ 0
          have d1 := D.at_ 1
          have d2 := D.at_ 2
          have d3 := D.at_ 3
          have d4 := D.at_ 4
          have d5 := D.at_ 5
          have d6 := D.at_ 6
          have d7 := D.at_ 7
          have d8 := D.at_ 8
          have d9 := D.at_ 9
          have d10 := D.at_ 10
          have g0 := D.free 0
          have g1 := D.free 1
          have g2 := D.free 2
          have g3 := D.free 3
          have g4 := D.free 4
          have g5 := D.free 5
          have g6 := D.free 6
          have g7 := D.free 7
          have g8 := D.free 8
          have g9 := D.free 9
          have g10 := D.free 10
          clear hbx hrs hls hwb D
          go_wp2
          have hD := HRS.out.put11 (.int .i64 c5.wo) (.int .i64 c5.le) (.int .i64 c5.cl) (.int .i64 c5.ta) (.int .i64 c5.de) (.int .i64 c5.he) (.int .i64 c5.ba) (.int .i64 c5.ag) (.int .i64 c5.pa) (.slice (some x) qn qc) (.slice ta tn tc)
          have hF := fr11 wc (w.heap.size + 1) (.int .i64 c5.wo) (.int .i64 c5.le) (.int .i64 c5.cl) (.int .i64 c5.ta) (.int .i64 c5.de) (.int .i64 c5.he) (.int .i64 c5.ba) (.int .i64 c5.ag) (.int .i64 c5.pa) (.slice (some x) qn qc) (.slice ta tn tc)
          refine bodyPost_ret (results_cell_row (P := Try.prog) Try.results10 _ _ (w.heap.size + 1) 25 _ (0, 0) _ rfl hD Try.underlying25 rfl (by kernel_rfl)) rfl ?_
          have hbl := fr_below ((Fr.old HWB.out : Fr [] w wc).drop hF (fun x hx => by simp at hx; omega))
          exact ⟨_, { c5 with pr := pr, su := su }, rfl, ⟨some x, qn, qc, ta, tn, tc, rfl, ((HLS.out.fr hF (fun s hs => by simp at hs; omega)).mono (Nat.zero_le _))⟩, hbl⟩

end Go.Proofs.Ytnpnamgeajifkaa
