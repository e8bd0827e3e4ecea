/-
  An environment of the program beside one of the reference: what a step of one of them leaves of both. No function is named but those of MatchS.
  The reference's New of a memory. (Taken out of XMemCallsB and XMemCallsD.)
  The reference's Bare.
-/
import Derived.Test.YtllllbepnnpeeaaMgAQ
import Derived.Test.YtllllbepnnpeeaaMgAA
import Derived.Test.YtllllbepnnpeeaaMgAN
import Derived.Shelf.Abstract
import Derived.Outline
import Derived.Below
import Derived.Laws.StructEq
import Derived.Deep.OwnRows
import Derived.Maps.AppendAt
import Derived.OwnWalk
import Derived.WalkSpells
import Derived.WalkLawsBesides
import Derived.Lib.Hide
import Derived.IntWalk
import Derived.Test.YtllllbepnnpeeaaMgAP
namespace Go.Proofs.Ytllllbepnnpeeaa
open Go Go.RowKit Go.Shelf
set_option linter.unusedSimpArgs false

theorem ty_at {w : World} {k : Nat} {t t' : TypeId} {cs cs' : Array Value} (h : Blk w k t cs) (h' : w.heap[k]? = some (Obj.cells cs' t' (0, 0))) : t = t' := by
  unfold Blk at h
  rw [h] at h'
  simp only [Option.some.injEq, Obj.cells.injEq] at h'
  exact h'.2.1
theorem row_frS {w w' : World} {S : List Nat} {base : Nat} {t : TypeId} {s : Nat} {v : Value} {n : Nat} {vs : List Value} (h : w.ownsRow base t s v n vs) (hf : Fr S w w') (hn : ∀ k, v.ownBlock = some k → k ∉ S) : w'.ownsRow base t s v n vs :=
  row_same h (fun k hk => hf.block k (World.ownsRow.lt h k hk).2 (hn k hk))
theorem OwnR.frS {w w' : World} {S : List Nat} {B : Nat} {v : Value} {rs : List Rec} (h : OwnR w B v rs) (hf : Fr S w w') (hn : ∀ k, v.ownBlock = some k → k ∉ S) (hi : ∀ (k : Nat) (cs : Array Value), k ∈ S → w.heap[k]? ≠ some (Obj.cells cs 3 (0, 0))) : OwnR w' B v rs := by
  obtain ⟨ks, a, b, c⟩ := h
  refine ⟨ks, a, row_frS b hf hn, fun i hi' => row_frS (c i hi') hf (fun k hk hm => ?_)⟩
  rcases (c i hi').2 with ⟨e, _⟩ | ⟨g, cap, cur, e, _, hg, _⟩
  · rw [e] at hk
    simp [Value.ownBlock] at hk
  · rw [e] at hk
    simp only [Value.ownBlock, Option.some.injEq] at hk
    subst hk
    exact hi g cur hm hg
theorem EnvF.frS {S : List Nat} {B : Nat} {w w' : World} {p : Nat} {a : EnvA} {s : St} {es : List Ev} {rs : List Rec} (h : EnvF B w p a s es rs) (hf : Fr S w w') (h1 : p ∉ S) (h2 : a.g ∉ S)
    (h3 : ∀ (k : Nat) (cs : Array Value) (t : TypeId), k ∈ S → w.heap[k]? = some (Obj.cells cs t (0, 0)) → t ≠ 172 ∧ t ≠ 177 ∧ t ≠ 3) (h4 : ∀ k, k ∈ S → B ≤ k) : EnvF B w' p a s es rs := by
  obtain ⟨W0, e0, e1, e2⟩ := h.cf
  have hsz := e2.size
  refine ⟨h.m.fr hf h1 h2, h.ev.same (fun k cs hk => hf.block k (Array.getElem?_eq_some_iff.1 hk).1 (fun hm => (h3 k cs _ hm hk).1 rfl)), h.rc.same (fun k cs t hk ht => hf.block k (Array.getElem?_eq_some_iff.1 hk).1 (fun hm => ?_)), ⟨W0, e0, e1, e2.trans (hf.below (by omega) h4)⟩, h.hp, h.hg⟩
  rcases ht with rfl | rfl
  · exact (h3 k cs _ hm hk).2.1 rfl
  · exact (h3 k cs _ hm hk).2.2 rfl

/-- Types that no environment's block has. -/
structure Odd (t : TypeId) : Prop where
  t1 : t ≠ 65
  t2 : t ≠ 134
  t3 : t ≠ 169
  t4 : t ≠ 39
  t5 : t ≠ 110
  t6 : t ≠ 172
  t7 : t ≠ 177
  t8 : t ≠ 3

/-- An environment of the program (block p, state s) and one of the reference (block q, state s2); blocks from B on are theirs. -/
structure Duo (w : World) (B p m k g cap : Nat) (hd : List Value) (rv ev : Value) (q : Nat) (a : EnvA) (s s2 : St) (t d : Int) (es es2 : List Ev) (rs rs2 : List Rec) : Prop where
  e : PE w p m k g cap s t d hd rv ev
  v : OwnE w B ev es
  r : OwnR w B rv rs
  f : EnvF B w q a s2 es2 rs2
  gg : g ≠ a.g
  vv : ∀ x, ev.ownBlock = some x → a.ev.ownBlock ≠ some x
  rr : ∀ x, rv.ownBlock = some x → a.rv.ownBlock ≠ some x
  bp : B ≤ p
  bm : B ≤ m
  bk : B ≤ k
  bg : B ≤ g

section
variable {w w' : World} {B p m k g cap : Nat} {hd : List Value} {rv ev : Value} {q : Nat} {a : EnvA} {s s' s2 : St} {t t' d : Int} {es es2 : List Ev} {rs rs2 : List Rec}
theorem Duo.twin (h : Duo w B p m k g cap hd rv ev q a s s a.now d es es rs rs) : Twin w B p m k g cap hd rv ev q a s d es rs := ⟨h.e, h.v, h.r, h.f⟩
theorem Duo.below (h : Duo w B p m k g cap hd rv ev q a s s2 t d es es2 rs rs2) (hb : Below w.heap.size w w') : Duo w' B p m k g cap hd rv ev q a s s2 t d es es2 rs rs2 :=
  ⟨h.e.below hb, h.v.below hb, h.r.same (fun _ _ _ hk _ => hb.block _ (Array.getElem?_eq_some_iff.1 hk).1), h.f.below hb, h.gg, h.vv, h.rr, h.bp, h.bm, h.bk, h.bg⟩
theorem Duo.drewN (h : Duo w B p m k g cap hd rv ev q a s s2 t d es es2 rs rs2) (n : Nat) : Duo (w.drewN n) B p m k g cap hd rv ev q a s s2 t d es es2 rs rs2 := h.below (below_drewN w n)
theorem Duo.lowP (h : Duo w B p m k g cap hd rv ev q a s s2 t d es es2 rs rs2) : ∀ y, y ∈ [m, g] → B ≤ y := by
  intro y hy
  simp only [List.mem_cons, List.not_mem_nil, or_false] at hy
  rcases hy with rfl | rfl
  · exact h.bm
  · exact h.bg
theorem Duo.lowX (h : Duo w B p m k g cap hd rv ev q a s s2 t d es es2 rs rs2) {x : Nat} (hx : B ≤ x) : ∀ y, y ∈ [m, g, x] → B ≤ y := by
  intro y hy
  simp only [List.mem_cons, List.not_mem_nil, or_false] at hy
  rcases hy with rfl | rfl | rfl
  · exact h.bm
  · exact h.bg
  · exact hx
theorem Duo.lowR (h : Duo w B p m k g cap hd rv ev q a s s2 t d es es2 rs rs2) : ∀ y, y ∈ [q, a.g] → B ≤ y := by
  intro y hy
  simp only [List.mem_cons, List.not_mem_nil, or_false] at hy
  rcases hy with rfl | rfl
  · exact h.f.hp
  · exact h.f.hg
/-- A step of a machine of the program (block x), which makes accesses. -/
theorem Duo.prog (h : Duo w B p m k g cap hd rv ev q a s s2 t d es es2 rs rs2) {x : Nat} {tx : TypeId} {cx : Array Value} (hx : Blk w x tx cx) (ht : Odd tx) (hB : B ≤ x) (hp : PE w' p m k g cap s' t d hd rv ev) (hf : Fr [m, g, x] w w') :
    Duo w' B p m k g cap hd rv ev q a s' s2 t d es es2 rs rs2 := by
  obtain ⟨cur, hg, _⟩ := h.e.mem.row.blk
  obtain ⟨cur2, hg2, _⟩ := h.f.m.row.blk
  have hS : ∀ (j : Nat) (cs : Array Value) (tj : TypeId), j ∈ [m, g, x] → w.heap[j]? = some (Obj.cells cs tj (0, 0)) → tj ≠ 172 ∧ tj ≠ 177 ∧ tj ≠ 3 ∧ tj ≠ 110 := by
    intro j cs tj hj hk
    simp only [List.mem_cons, List.not_mem_nil, or_false] at hj
    rcases hj with rfl | rfl | rfl
    · rw [← ty_at h.e.mem.blk hk]
      exact ⟨by decide, by decide, by decide, by decide⟩
    · rw [← ty_at hg hk]
      exact ⟨by decide, by decide, by decide, by decide⟩
    · rw [← ty_at hx hk]
      exact ⟨ht.t6, ht.t7, ht.t8, ht.t5⟩
  refine ⟨hp, h.v.same (fun j cs hk => hf.block j (Array.getElem?_eq_some_iff.1 hk).1 (fun hm => (hS j cs _ hm hk).1 rfl)), h.r.same (fun j cs tj hk hte => hf.block j (Array.getElem?_eq_some_iff.1 hk).1 (fun hm => ?_)), ?_, h.gg, h.vv, h.rr, h.bp, h.bm, h.bk, h.bg⟩
  · rcases hte with rfl | rfl
    · exact (hS j cs _ hm hk).2.1 rfl
    · exact (hS j cs _ hm hk).2.2.1 rfl
  · refine h.f.frS hf (fun hm => (hS q _ _ hm h.f.m.blk).2.2.2 rfl) (fun hm => ?_) (fun j cs tj hm hk => ⟨(hS j cs tj hm hk).1, (hS j cs tj hm hk).2.1, (hS j cs tj hm hk).2.2.1⟩) (fun j hj => ?_)
    · simp only [List.mem_cons, List.not_mem_nil, or_false] at hm
      rcases hm with e | e | e
      · exact hg2.apart h.e.mem.blk (by decide) e
      · exact h.gg e.symm
      · exact hg2.apart hx (fun e => ht.t4 e.symm) e
    · simp only [List.mem_cons, List.not_mem_nil, or_false] at hj
      rcases hj with rfl | rfl | rfl
      · exact h.bm
      · exact h.bg
      · exact hB
/-- An access of the program's memory alone. -/
theorem Duo.pacc (h : Duo w B p m k g cap hd rv ev q a s s2 t d es es2 rs rs2) (hm : Mem w' m g cap s') (hf : Fr [m, g] w w') : Duo w' B p m k g cap hd rv ev q a s' s2 t d es es2 rs rs2 := by
  obtain ⟨cur, hg, _⟩ := h.e.mem.row.blk
  obtain ⟨cur2, hg2, _⟩ := h.f.m.row.blk
  have hS : ∀ (j : Nat) (cs : Array Value) (tj : TypeId), j ∈ [m, g] → w.heap[j]? = some (Obj.cells cs tj (0, 0)) → tj ≠ 172 ∧ tj ≠ 177 ∧ tj ≠ 3 ∧ tj ≠ 110 := by
    intro j cs tj hj hk
    simp only [List.mem_cons, List.not_mem_nil, or_false] at hj
    rcases hj with rfl | rfl
    · rw [← ty_at h.e.mem.blk hk]
      exact ⟨by decide, by decide, by decide, by decide⟩
    · rw [← ty_at hg hk]
      exact ⟨by decide, by decide, by decide, by decide⟩
  refine ⟨h.e.acc hm hf, h.v.same (fun j cs hk => hf.block j (Array.getElem?_eq_some_iff.1 hk).1 (fun hm => (hS j cs _ hm hk).1 rfl)), h.r.same (fun j cs tj hk hte => hf.block j (Array.getElem?_eq_some_iff.1 hk).1 (fun hm => ?_)), ?_, h.gg, h.vv, h.rr, h.bp, h.bm, h.bk, h.bg⟩
  · rcases hte with rfl | rfl
    · exact (hS j cs _ hm hk).2.1 rfl
    · exact (hS j cs _ hm hk).2.2.1 rfl
  · refine h.f.frS hf (fun hm => (hS q _ _ hm h.f.m.blk).2.2.2 rfl) (fun hm => ?_) (fun j cs tj hm hk => ⟨(hS j cs tj hm hk).1, (hS j cs tj hm hk).2.1, (hS j cs tj hm hk).2.2.1⟩) (fun j hj => ?_)
    · simp only [List.mem_cons, List.not_mem_nil, or_false] at hm
      rcases hm with e | e
      · exact hg2.apart h.e.mem.blk (by decide) e
      · exact h.gg e.symm
    · simp only [List.mem_cons, List.not_mem_nil, or_false] at hj
      rcases hj with rfl | rfl
      · exact h.bm
      · exact h.bg
/-- An access of the reference's memory alone. -/
theorem Duo.racc (h : Duo w B p m k g cap hd rv ev q a s s2 t d es es2 rs rs2) {s2' : St} (hm : EnvM w' q a s2') (hf : Fr [q, a.g] w w') : Duo w' B p m k g cap hd rv ev q a s s2' t d es es2 rs rs2 := by
  obtain ⟨cur, hg, _⟩ := h.e.mem.row.blk
  obtain ⟨cur2, hg2, _⟩ := h.f.m.row.blk
  have hS : ∀ (j : Nat) (cs : Array Value) (tj : TypeId), j ∈ [q, a.g] → w.heap[j]? = some (Obj.cells cs tj (0, 0)) → tj ≠ 172 ∧ tj ≠ 177 ∧ tj ≠ 3 := by
    intro j cs tj hj hk
    simp only [List.mem_cons, List.not_mem_nil, or_false] at hj
    rcases hj with rfl | rfl
    · rw [← ty_at h.f.m.blk hk]
      exact ⟨by decide, by decide, by decide⟩
    · rw [← ty_at hg2 hk]
      exact ⟨by decide, by decide, by decide⟩
  have n1 : p ∉ [q, a.g] := by simp only [List.mem_cons, List.not_mem_nil, or_false, not_or]; exact ⟨h.e.blk.apart h.f.m.blk (by decide), h.e.blk.apart hg2 (by decide)⟩
  have n2 : m ∉ [q, a.g] := by simp only [List.mem_cons, List.not_mem_nil, or_false, not_or]; exact ⟨h.e.mem.blk.apart h.f.m.blk (by decide), h.e.mem.blk.apart hg2 (by decide)⟩
  have n3 : k ∉ [q, a.g] := by simp only [List.mem_cons, List.not_mem_nil, or_false, not_or]; exact ⟨Blk.apart h.e.clk h.f.m.blk (by decide), Blk.apart h.e.clk hg2 (by decide)⟩
  have n4 : g ∉ [q, a.g] := by simp only [List.mem_cons, List.not_mem_nil, or_false, not_or]; exact ⟨hg.apart h.f.m.blk (by decide), h.gg⟩
  refine ⟨h.e.fr hf n1 n2 n3 n4, h.v.same (fun j cs hk => hf.block j (Array.getElem?_eq_some_iff.1 hk).1 (fun hm => (hS j cs _ hm hk).1 rfl)), h.r.same (fun j cs tj hk hte => hf.block j (Array.getElem?_eq_some_iff.1 hk).1 (fun hm => ?_)), h.f.acc hm hf, h.gg, h.vv, h.rr, h.bp, h.bm, h.bk, h.bg⟩
  rcases hte with rfl | rfl
  · exact (hS j cs _ hm hk).2.1 rfl
  · exact (hS j cs _ hm hk).2.2 rfl
/-- A block of another type has changed. -/
theorem Duo.odd (h : Duo w B p m k g cap hd rv ev q a s s2 t d es es2 rs rs2) {x : Nat} {tx : TypeId} {cx : Array Value} (hx : Blk w x tx cx) (ht : Odd tx) (hB : B ≤ x) (hf : Fr [x] w w') : Duo w' B p m k g cap hd rv ev q a s s2 t d es es2 rs rs2 := by
  obtain ⟨cur, hg, _⟩ := h.e.mem.row.blk
  have hp := h.e.fr hf (by simpa using h.e.blk.apart hx (fun e => ht.t1 e.symm)) (by simpa using h.e.mem.blk.apart hx (fun e => ht.t2 e.symm)) (by simpa using Blk.apart h.e.clk hx (fun e => ht.t3 e.symm)) (by simpa using hg.apart hx (fun e => ht.t4 e.symm))
  exact h.prog hx ht hB hp (hf.mono (by simp))
/-- The program's clock ticks. -/
theorem Duo.tick (h : Duo w B p m k g cap hd rv ev q a s s2 t d es es2 rs rs2) (hc : Clk w' k t' d) (hf : Fr [k] w w') : Duo w' B p m k g cap hd rv ev q a s s2 t' d es es2 rs rs2 := by
  obtain ⟨cur, hg, _⟩ := h.e.mem.row.blk
  obtain ⟨cur2, hg2, _⟩ := h.f.m.row.blk
  have hty : ∀ (cs : Array Value) (tj : TypeId), w.heap[k]? = some (Obj.cells cs tj (0, 0)) → 169 = tj := fun cs tj hk => ty_at h.e.clk hk
  have n1 : p ≠ k := h.e.hpk
  have n2 : m ≠ k := h.e.hkm.symm
  have n4 : g ≠ k := h.e.hkg.symm
  refine ⟨⟨h.e.blk.of_same (hf.block p h.e.blk.lt (by simpa using n1)), h.e.len, h.e.mem.fr hf (by simpa using n2) (by simpa using n4), hc⟩, h.v.same (fun j cs hk => hf.block j (Array.getElem?_eq_some_iff.1 hk).1 (fun hm => ?_)), h.r.same (fun j cs tj hk hte => hf.block j (Array.getElem?_eq_some_iff.1 hk).1 (fun hm => ?_)), ?_, h.gg, h.vv, h.rr, h.bp, h.bm, h.bk, h.bg⟩
  · simp only [List.mem_cons, List.not_mem_nil, or_false] at hm
    subst hm
    exact absurd (hty _ _ hk) (by decide)
  · simp only [List.mem_cons, List.not_mem_nil, or_false] at hm
    subst hm
    rcases hte with rfl | rfl
    · exact absurd (hty _ _ hk) (by decide)
    · exact absurd (hty _ _ hk) (by decide)
  · exact h.f.other h.e.clk h.bk (by decide) (by decide) (by decide) (by decide) (by decide) hf
/-- The reference's time is set. -/
theorem Duo.rnow (h : Duo w B p m k g cap hd rv ev q a s s2 t d es es2 rs rs2) (n : Int) : Duo (w.setCell ⟨q, 17, none⟩ (.int .i64 n)) B p m k g cap hd rv ev q { a with now := n } s s2 t d es es2 rs rs2 := by
  have hf : Fr [q] w (w.setCell ⟨q, 17, none⟩ (.int .i64 n)) := (Fr.refl _ _).setCell (by simp) _
  obtain ⟨cur, hg, _⟩ := h.e.mem.row.blk
  obtain ⟨cur2, hg2, _⟩ := h.f.m.row.blk
  obtain ⟨W0, e0, e1, e2⟩ := h.f.cf
  have hsz := e2.size
  have hty : ∀ (cs : Array Value) (tj : TypeId), w.heap[q]? = some (Obj.cells cs tj (0, 0)) → 110 = tj := fun cs tj hk => ty_at h.f.m.blk hk
  have hne : ∀ (j : Nat) (cs : Array Value) (tj : TypeId), w.heap[j]? = some (Obj.cells cs tj (0, 0)) → tj ≠ 110 → (w.setCell ⟨q, 17, none⟩ (.int .i64 n)).heap[j]? = w.heap[j]? := by
    intro j cs tj hk hn
    refine hf.block j (Array.getElem?_eq_some_iff.1 hk).1 (fun hm => ?_)
    simp only [List.mem_cons, List.not_mem_nil, or_false] at hm
    subst hm
    exact hn (hty _ _ hk).symm
  refine ⟨h.e.fr hf (by simpa using h.e.blk.apart h.f.m.blk (by decide)) (by simpa using h.e.mem.blk.apart h.f.m.blk (by decide)) (by simpa using Blk.apart h.e.clk h.f.m.blk (by decide)) (by simpa using hg.apart h.f.m.blk (by decide)),
    h.v.same (fun j cs hk => hne j cs _ hk (by decide)), h.r.same (fun j cs tj hk hte => hne j cs tj hk (by rcases hte with rfl | rfl <;> decide)), ⟨⟨h.f.m.blk.put 17 _, h.f.m.row.of_same (hne a.g _ _ hg2 (by decide)), h.f.m.small⟩, h.f.ev.same (fun j cs hk => hne j cs _ hk (by decide)), h.f.rc.same (fun j cs tj hk hte => hne j cs tj hk (by rcases hte with rfl | rfl <;> decide)), ⟨W0, e0, e1, e2.trans (hf.below (by omega) (fun j hj => ?_))⟩, h.f.hp, h.f.hg⟩, h.gg, h.vv, h.rr, h.bp, h.bm, h.bk, h.bg⟩
  simp at hj
  subst hj
  exact h.f.hp
end
end Go.Proofs.Ytllllbepnnpeeaa

namespace Go.Proofs.Ytllllbepnnpeeaa
open Go Go.RowKit Go.Shelf
set_option maxRecDepth 100000

/-- What the reference's New gives: a memory by value. -/
def RNew (w : World) (n : Nat) (e : Ending) (w' : World) : Prop :=
  e = .returned (.agg #[.slice (some ⟨w.heap.size + 1, 0, none⟩) n n, .int .i64 0, .int .i64 0, .int .u64 0, .int .u64 0, .int .i64 0]) ∧ Row w' (w.heap.size + 1) n n (List.replicate n 0) ∧ Below w.heap.size w w'

theorem rnew_end (w : World) (n : Nat) (hn : n ≤ 131072) (o : Obj) :
    RNew w n (.returned (.agg #[.slice (some ⟨w.heap.size + 1, 0, none⟩) n n, .int .i64 0, .int .i64 0, .int .u64 0, .int .u64 0, .int .i64 0])) ((w.alloc o).alloc (.cells (madeCells #[.int .u64 0] n) 39)) := by
  refine ⟨rfl, ?_, ((Below.refl _ _).alloc (Nat.le_refl _) _).alloc (by simp) _⟩
  have := made_row (w.alloc o) n hn
  simpa using this

theorem rnew_any (c : Int) (w : World) : Calls Try.prog 59 #[.int .i64 c] w (RNew w (sizeS c)) := by
  have hmk := fun (n : Nat) (hn : n ≤ 131072) (W : World) => run_make_row' (P := Try.prog) 44 39 (.int .u64 0) 8 Try.underlying44 info_u64 rfl .i64 .i64 n (by omega) (by omega) W
  have HE := Lib.hid (rnew_end w)
  by_cases h1 : c ≤ 0
  · have e : sizeS c = 0 := by unfold sizeS; rw [if_pos (by omega)]
    rw [e]
    clear e
    have hk := hmk 0 (by omega)
    rw [show ((0 : Nat) : Int) = 0 from rfl] at hk
    clear hmk
    go_enter Try.func59, Try.ntmps59
    go_wp2
    exact bodyPost_ret (v := .agg #[.slice (some ⟨w.heap.size + 1, 0, none⟩) 0 0, .int .i64 0, .int .i64 0, .int .u64 0, .int .u64 0, .int .i64 0]) (by simp [results, Try.results59, go_sem]) rfl (HE.out 0 (by omega) _)
  · by_cases h2 : c ≤ 131072
    · obtain ⟨n, rfl⟩ : ∃ n : Nat, c = (n : Int) := ⟨c.toNat, by omega⟩
      have e : sizeS n = n := by unfold sizeS; rw [if_neg h1, if_pos h2]; omega
      rw [e]
      clear e
      have hk := hmk n (by omega)
      clear hmk
      go_enter Try.func59, Try.ntmps59
      go_wp2
      exact bodyPost_ret (v := .agg #[.slice (some ⟨w.heap.size + 1, 0, none⟩) n n, .int .i64 0, .int .i64 0, .int .u64 0, .int .u64 0, .int .i64 0]) (by simp [results, Try.results59, go_sem]) rfl (HE.out n (by omega) _)
    · have e : sizeS c = 131072 := by unfold sizeS; rw [if_neg h1, if_neg h2]
      rw [e]
      clear e
      have hk := hmk 131072 (by omega)
      rw [show ((131072 : Nat) : Int) = 131072 from rfl] at hk
      clear hmk
      go_enter Try.func59, Try.ntmps59
      go_wp2
      exact bodyPost_ret (v := .agg #[.slice (some ⟨w.heap.size + 1, 0, none⟩) 131072 131072, .int .i64 0, .int .i64 0, .int .u64 0, .int .u64 0, .int .i64 0]) (by simp [results, Try.results59, go_sem]) rfl (HE.out 131072 (by omega) _)
end Go.Proofs.Ytllllbepnnpeeaa

namespace Go.Proofs.Ytllllbepnnpeeaa
open Go Go.RowKit
set_option linter.unusedSimpArgs false

/-- What a bare environment holds besides its memory. -/
abbrev bareC : Cfg := ⟨0, 0, 0, 0, 0, 0, 0, 0, 0, [], []⟩
abbrev bareA (g cap : Nat) : EnvA := ⟨bareC, none, 0, 0, none, 0, 0, g, cap, 0, 0, .slice none 0 0, .slice none 0 0⟩
/-- What Bare gives. -/
def Bared (n : Nat) (w : World) (e : Ending) (w' : World) : Prop := ∃ p g cap, e = .returned (.pointer (some ⟨p, 0, none⟩)) ∧ EnvF w.heap.size w' p (bareA g cap) (St.new n) [] [] ∧ Below w.heap.size w w'

set_option maxHeartbeats 2000000 in
theorem bare_any (c : Int) (w : World) : Calls Try.prog 40 #[.int .i64 c] w (Bared (sizeS c) w) := by
  have hn : sizeS c ≤ 131072 := by unfold sizeS; split <;> (try split) <;> omega
  have HN := Lib.hid hn
  clear hn
  go_enter Try.func40, Try.ntmps40
  go_wp2_with fail
  (with_reducible refine (rnew_any c _).mono ?_)
  rintro e w1 ⟨rfl, hrow, hb⟩
  generalize sizeS c = n at *
  have HR := Lib.hid hrow
  have HB := Lib.hid hb
  clear hrow hb
  go_wp2
  go_ret
  have hb2 := below_one w1 (.cells (ecells (bareA (w.heap.size + 1) n) (St.new n)) 110)
  have hw : (St.new n).X.length = n := by simp [St.new]
  have hs := HB.out.size
  have hlt := HR.out.lt
  refine ⟨w1.heap.size, w.heap.size + 1, n, rfl, ⟨⟨?_, ?_, by rw [hw]; exact HN.out⟩, World.ownsRow_nil _ _ _ _, ⟨[], rfl, World.ownsRow_nil _ _ _ _, fun i hi => by simp at hi⟩, ⟨w, rfl, ⟨prgs_nil _ _ _, tris_nil _ _ _⟩, ?_⟩, by omega, by show w.heap.size ≤ w.heap.size + 1; omega⟩, ?_⟩
  · have := Blk.made w1 110 (ecells (bareA (w.heap.size + 1) n) (St.new n))
    simpa [ecells, St.new] using this
  · have hr := HR.out.of_same (w' := w1.alloc (.cells (ecells (bareA (w.heap.size + 1) n) (St.new n)) 110)) (Below.heap_alloc w1 _ _ hlt)
    rw [hw]
    simpa [ecells, St.new] using hr
  · have := HB.out.trans (hb2.mono hs)
    simpa [ecells, St.new] using this
  · have := HB.out.trans (hb2.mono hs)
    simpa [ecells, St.new] using this
end Go.Proofs.Ytllllbepnnpeeaa
