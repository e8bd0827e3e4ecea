/-
  An environment of the program beside one of the reference: what a step of one of them leaves of both. No function is named but those of MatchS.
-/
import Derived.Test.YtanbjdlaolgepaaGreatMgAM
import Derived.Test.YtanbjdlaolgepaaGreatMatchS
namespace Go.Proofs.YtanbjdlaolgepaaGreat
open Go Go.RowKit Go.Shelf
set_option linter.unusedSimpArgs false

theorem EnvF.frS {S : List Nat} {B : Nat} {w w' : World} {p : Nat} {a : EnvA} {s : St} {es : List Ev} {rs : List Rec} (h : EnvF B w p a s es rs) (hf : Fr S w w') (h1 : p ∉ S) (h2 : a.g ∉ S)
    (h3 : ∀ (k : Nat) (cs : Array Value) (t : TypeId), k ∈ S → w.heap[k]? = some (Obj.cells cs t (0, 0)) → t ≠ 163 ∧ t ≠ 119 ∧ t ≠ 3) (h4 : ∀ k, k ∈ S → B ≤ k) : EnvF B w' p a s es rs := by
  obtain ⟨W0, e0, e1, e2⟩ := h.cf
  have hsz := e2.size
  refine ⟨h.m.fr hf h1 h2, h.ev.same (fun k cs hk => hf.block k (Array.getElem?_eq_some_iff.1 hk).1 (fun hm => (h3 k cs _ hm hk).1 rfl)), h.rc.same (fun k cs t hk ht => hf.block k (Array.getElem?_eq_some_iff.1 hk).1 (fun hm => ?_)), ⟨W0, e0, e1, e2.trans (hf.below (by omega) h4)⟩, h.hp, h.hg⟩
  rcases ht with rfl | rfl
  · exact (h3 k cs _ hm hk).2.1 rfl
  · exact (h3 k cs _ hm hk).2.2 rfl

/-- Types that no environment's block has. -/
structure Odd (t : TypeId) : Prop where
  t1 : t ≠ 43
  t2 : t ≠ 127
  t3 : t ≠ 130
  t4 : t ≠ 46
  t5 : t ≠ 53
  t6 : t ≠ 163
  t7 : t ≠ 119
  t8 : t ≠ 3

/-- An environment of the program (block p, state s) and one of the reference (block q, state s2); blocks from B on are theirs. -/
structure Duo (w : World) (B p m k g cap : Nat) (hd : List Value) (rv ev : Value) (q : Nat) (a : EnvA) (s s2 : St) (t d : Int) (es es2 : List Ev) (rs rs2 : List Rec) : Prop where
  e : PE w p m k g cap s t d hd rv ev
  v : OwnE w B ev es
  r : OwnR w B rv rs
  f : EnvF B w q a s2 es2 rs2
  gg : g ≠ a.g
  vv : ∀ x, ev.ownBlock = some x → a.ev.ownBlock ≠ some x
  rr : ∀ x, rv.ownBlock = some x → a.rv.ownBlock ≠ some x
  bp : B ≤ p
  bm : B ≤ m
  bk : B ≤ k
  bg : B ≤ g

section
variable {w w' : World} {B p m k g cap : Nat} {hd : List Value} {rv ev : Value} {q : Nat} {a : EnvA} {s s' s2 : St} {t t' d : Int} {es es2 : List Ev} {rs rs2 : List Rec}
theorem Duo.twin (h : Duo w B p m k g cap hd rv ev q a s s a.now d es es rs rs) : Twin w B p m k g cap hd rv ev q a s d es rs := ⟨h.e, h.v, h.r, h.f⟩
theorem Duo.below (h : Duo w B p m k g cap hd rv ev q a s s2 t d es es2 rs rs2) (hb : Below w.heap.size w w') : Duo w' B p m k g cap hd rv ev q a s s2 t d es es2 rs rs2 :=
  ⟨h.e.below hb, h.v.below hb, h.r.same (fun _ _ _ hk _ => hb.block _ (Array.getElem?_eq_some_iff.1 hk).1), h.f.below hb, h.gg, h.vv, h.rr, h.bp, h.bm, h.bk, h.bg⟩
theorem Duo.drewN (h : Duo w B p m k g cap hd rv ev q a s s2 t d es es2 rs rs2) (n : Nat) : Duo (w.drewN n) B p m k g cap hd rv ev q a s s2 t d es es2 rs rs2 := h.below (below_drewN w n)
theorem Duo.lowP (h : Duo w B p m k g cap hd rv ev q a s s2 t d es es2 rs rs2) : ∀ y, y ∈ [m, g] → B ≤ y := by
  intro y hy
  simp only [List.mem_cons, List.not_mem_nil, or_false] at hy
  rcases hy with rfl | rfl
  · exact h.bm
  · exact h.bg
theorem Duo.lowR (h : Duo w B p m k g cap hd rv ev q a s s2 t d es es2 rs rs2) : ∀ y, y ∈ [q, a.g] → B ≤ y := by
  intro y hy
  simp only [List.mem_cons, List.not_mem_nil, or_false] at hy
  rcases hy with rfl | rfl
  · exact h.f.hp
  · exact h.f.hg
/-- An access of the program's memory alone. -/
theorem Duo.pacc (h : Duo w B p m k g cap hd rv ev q a s s2 t d es es2 rs rs2) (hm : Mem w' m g cap s') (hf : Fr [m, g] w w') : Duo w' B p m k g cap hd rv ev q a s' s2 t d es es2 rs rs2 := by
  obtain ⟨cur, hg, _⟩ := h.e.mem.row.blk
  obtain ⟨cur2, hg2, _⟩ := h.f.m.row.blk
  have hS : ∀ (j : Nat) (cs : Array Value) (tj : TypeId), j ∈ [m, g] → w.heap[j]? = some (Obj.cells cs tj (0, 0)) → tj ≠ 163 ∧ tj ≠ 119 ∧ tj ≠ 3 ∧ tj ≠ 53 := by
    intro j cs tj hj hk
    simp only [List.mem_cons, List.not_mem_nil, or_false] at hj
    rcases hj with rfl | rfl
    · rw [← ty_at h.e.mem.blk hk]
      exact ⟨by decide, by decide, by decide, by decide⟩
    · rw [← ty_at hg hk]
      exact ⟨by decide, by decide, by decide, by decide⟩
  refine ⟨h.e.acc hm hf, h.v.same (fun j cs hk => hf.block j (Array.getElem?_eq_some_iff.1 hk).1 (fun hm => (hS j cs _ hm hk).1 rfl)), h.r.same (fun j cs tj hk hte => hf.block j (Array.getElem?_eq_some_iff.1 hk).1 (fun hm => ?_)), ?_, h.gg, h.vv, h.rr, h.bp, h.bm, h.bk, h.bg⟩
  · rcases hte with rfl | rfl
    · exact (hS j cs _ hm hk).2.1 rfl
    · exact (hS j cs _ hm hk).2.2.1 rfl
  · refine h.f.frS hf (fun hm => (hS q _ _ hm h.f.m.blk).2.2.2 rfl) (fun hm => ?_) (fun j cs tj hm hk => ⟨(hS j cs tj hm hk).1, (hS j cs tj hm hk).2.1, (hS j cs tj hm hk).2.2.1⟩) (fun j hj => ?_)
    · simp only [List.mem_cons, List.not_mem_nil, or_false] at hm
      rcases hm with e | e
      · exact hg2.apart h.e.mem.blk (by decide) e
      · exact h.gg e.symm
    · simp only [List.mem_cons, List.not_mem_nil, or_false] at hj
      rcases hj with rfl | rfl
      · exact h.bm
      · exact h.bg
/-- An access of the reference's memory alone. -/
theorem Duo.racc (h : Duo w B p m k g cap hd rv ev q a s s2 t d es es2 rs rs2) {s2' : St} (hm : EnvM w' q a s2') (hf : Fr [q, a.g] w w') : Duo w' B p m k g cap hd rv ev q a s s2' t d es es2 rs rs2 := by
  obtain ⟨cur, hg, _⟩ := h.e.mem.row.blk
  obtain ⟨cur2, hg2, _⟩ := h.f.m.row.blk
  have hS : ∀ (j : Nat) (cs : Array Value) (tj : TypeId), j ∈ [q, a.g] → w.heap[j]? = some (Obj.cells cs tj (0, 0)) → tj ≠ 163 ∧ tj ≠ 119 ∧ tj ≠ 3 := by
    intro j cs tj hj hk
    simp only [List.mem_cons, List.not_mem_nil, or_false] at hj
    rcases hj with rfl | rfl
    · rw [← ty_at h.f.m.blk hk]
      exact ⟨by decide, by decide, by decide⟩
    · rw [← ty_at hg2 hk]
      exact ⟨by decide, by decide, by decide⟩
  have n1 : p ∉ [q, a.g] := by simp only [List.mem_cons, List.not_mem_nil, or_false, not_or]; exact ⟨h.e.blk.apart h.f.m.blk (by decide), h.e.blk.apart hg2 (by decide)⟩
  have n2 : m ∉ [q, a.g] := by simp only [List.mem_cons, List.not_mem_nil, or_false, not_or]; exact ⟨h.e.mem.blk.apart h.f.m.blk (by decide), h.e.mem.blk.apart hg2 (by decide)⟩
  have n3 : k ∉ [q, a.g] := by simp only [List.mem_cons, List.not_mem_nil, or_false, not_or]; exact ⟨Blk.apart h.e.clk h.f.m.blk (by decide), Blk.apart h.e.clk hg2 (by decide)⟩
  have n4 : g ∉ [q, a.g] := by simp only [List.mem_cons, List.not_mem_nil, or_false, not_or]; exact ⟨hg.apart h.f.m.blk (by decide), h.gg⟩
  refine ⟨h.e.fr hf n1 n2 n3 n4, h.v.same (fun j cs hk => hf.block j (Array.getElem?_eq_some_iff.1 hk).1 (fun hm => (hS j cs _ hm hk).1 rfl)), h.r.same (fun j cs tj hk hte => hf.block j (Array.getElem?_eq_some_iff.1 hk).1 (fun hm => ?_)), h.f.acc hm hf, h.gg, h.vv, h.rr, h.bp, h.bm, h.bk, h.bg⟩
  rcases hte with rfl | rfl
  · exact (hS j cs _ hm hk).2.1 rfl
  · exact (hS j cs _ hm hk).2.2 rfl
/-- The program's clock ticks. -/
theorem Duo.tick (h : Duo w B p m k g cap hd rv ev q a s s2 t d es es2 rs rs2) (hc : Clk w' k t' d) (hf : Fr [k] w w') : Duo w' B p m k g cap hd rv ev q a s s2 t' d es es2 rs rs2 := by
  obtain ⟨cur, hg, _⟩ := h.e.mem.row.blk
  obtain ⟨cur2, hg2, _⟩ := h.f.m.row.blk
  have hty : ∀ (cs : Array Value) (tj : TypeId), w.heap[k]? = some (Obj.cells cs tj (0, 0)) → 130 = tj := fun cs tj hk => ty_at h.e.clk hk
  have n1 : p ≠ k := h.e.hpk
  have n2 : m ≠ k := h.e.hkm.symm
  have n4 : g ≠ k := h.e.hkg.symm
  refine ⟨⟨h.e.blk.of_same (hf.block p h.e.blk.lt (by simpa using n1)), h.e.len, h.e.mem.fr hf (by simpa using n2) (by simpa using n4), hc⟩, h.v.same (fun j cs hk => hf.block j (Array.getElem?_eq_some_iff.1 hk).1 (fun hm => ?_)), h.r.same (fun j cs tj hk hte => hf.block j (Array.getElem?_eq_some_iff.1 hk).1 (fun hm => ?_)), ?_, h.gg, h.vv, h.rr, h.bp, h.bm, h.bk, h.bg⟩
  · simp only [List.mem_cons, List.not_mem_nil, or_false] at hm
    subst hm
    exact absurd (hty _ _ hk) (by decide)
  · simp only [List.mem_cons, List.not_mem_nil, or_false] at hm
    subst hm
    rcases hte with rfl | rfl
    · exact absurd (hty _ _ hk) (by decide)
    · exact absurd (hty _ _ hk) (by decide)
  · exact h.f.other h.e.clk h.bk (by decide) (by decide) (by decide) (by decide) (by decide) hf
/-- The reference's time is set. -/
theorem Duo.rnow (h : Duo w B p m k g cap hd rv ev q a s s2 t d es es2 rs rs2) (n : Int) : Duo (w.setCell ⟨q, 17, none⟩ (.int .i64 n)) B p m k g cap hd rv ev q { a with now := n } s s2 t d es es2 rs rs2 := by
  have hf : Fr [q] w (w.setCell ⟨q, 17, none⟩ (.int .i64 n)) := (Fr.refl _ _).setCell (by simp) _
  obtain ⟨cur, hg, _⟩ := h.e.mem.row.blk
  obtain ⟨cur2, hg2, _⟩ := h.f.m.row.blk
  obtain ⟨W0, e0, e1, e2⟩ := h.f.cf
  have hsz := e2.size
  have hty : ∀ (cs : Array Value) (tj : TypeId), w.heap[q]? = some (Obj.cells cs tj (0, 0)) → 53 = tj := fun cs tj hk => ty_at h.f.m.blk hk
  have hne : ∀ (j : Nat) (cs : Array Value) (tj : TypeId), w.heap[j]? = some (Obj.cells cs tj (0, 0)) → tj ≠ 53 → (w.setCell ⟨q, 17, none⟩ (.int .i64 n)).heap[j]? = w.heap[j]? := by
    intro j cs tj hk hn
    refine hf.block j (Array.getElem?_eq_some_iff.1 hk).1 (fun hm => ?_)
    simp only [List.mem_cons, List.not_mem_nil, or_false] at hm
    subst hm
    exact hn (hty _ _ hk).symm
  refine ⟨h.e.fr hf (by simpa using h.e.blk.apart h.f.m.blk (by decide)) (by simpa using h.e.mem.blk.apart h.f.m.blk (by decide)) (by simpa using Blk.apart h.e.clk h.f.m.blk (by decide)) (by simpa using hg.apart h.f.m.blk (by decide)),
    h.v.same (fun j cs hk => hne j cs _ hk (by decide)), h.r.same (fun j cs tj hk hte => hne j cs tj hk (by rcases hte with rfl | rfl <;> decide)), ⟨⟨h.f.m.blk.put 17 _, h.f.m.row.of_same (hne a.g _ _ hg2 (by decide)), h.f.m.small⟩, h.f.ev.same (fun j cs hk => hne j cs _ hk (by decide)), h.f.rc.same (fun j cs tj hk hte => hne j cs tj hk (by rcases hte with rfl | rfl <;> decide)), ⟨W0, e0, e1, e2.trans (hf.below (by omega) (fun j hj => ?_))⟩, h.f.hp, h.f.hg⟩, h.gg, h.vv, h.rr, h.bp, h.bm, h.bk, h.bg⟩
  simp at hj
  subst hj
  exact h.f.hp
end
end Go.Proofs.YtanbjdlaolgepaaGreat
