/-
  The reference's environment whole: its memory, events, records and configuration. No function is named.
  The reference's New of a memory. (Taken out of XMemCallsB and XMemCallsD.)
-/
import Derived.Test.YthiiidkkdlmneaaMgAR
import Derived.Test.YthiiidkkdlmneaaRecA
import Derived.Test.YthiiidkkdlmneaaMgAA
import Derived.Test.YthiiidkkdlmneaaMgAF
import Derived.Shelf.Abstract
import Derived.Outline
import Derived.Below
import Derived.Laws.StructEq
import Derived.Deep.OwnRows
import Derived.Maps.AppendAt
import Derived.OwnWalk
import Derived.WalkSpells
import Derived.WalkLawsBesides
import Derived.Lib.Hide
import Derived.IntWalk
namespace Go.Proofs.Ythiiidkkdlmneaa
open Go Go.RowKit
set_option linter.unusedSimpArgs false

/-- The environment whole: blocks from B on are its own; below B lie the lists of the configuration. -/
structure EnvF (B : Nat) (w : World) (p : Nat) (a : EnvA) (s : St) (es : List Ev) (rs : List Rec) : Prop where
  m : EnvM w p a s
  ev : OwnE w B a.ev es
  rc : OwnR w B a.rv rs
  cf : ∃ W0 : World, W0.heap.size = B ∧ Lists W0 0 a.c a.pa a.pn a.sa a.sn ∧ Below B W0 w
  hp : B ≤ p
  hg : B ≤ a.g
/-- Which blocks of an environment change. -/
def EnvA.S (a : EnvA) (p : Nat) : List Nat := p :: a.g :: (a.ev.ownBlock.toList ++ a.rv.ownBlock.toList)

section
variable {B : Nat} {w w' : World} {p : Nat} {a : EnvA} {s s' : St} {es : List Ev} {rs : List Rec}
/-- Accesses to the memory change the environment's block and its memory's alone. -/
theorem EnvF.acc (h : EnvF B w p a s es rs) (hm : EnvM w' p a s') (hf : Fr [p, a.g] w w') : EnvF B w' p a s' es rs := by
  have hne : ∀ (k : Nat) (cs : Array Value) (t : TypeId), w.heap[k]? = some (Obj.cells cs t (0, 0)) → t ≠ 74 → t ≠ 50 → w'.heap[k]? = w.heap[k]? := by
    intro k cs t hk h1 h2
    refine hf.block k (Array.getElem?_eq_some_iff.1 hk).1 (fun hmm => ?_)
    simp only [List.mem_cons, List.not_mem_nil, or_false] at hmm
    rcases hmm with rfl | rfl
    · have hb := h.m.blk
      unfold Blk at hb
      rw [hb] at hk
      simp only [Option.some.injEq, Obj.cells.injEq] at hk
      exact h1 hk.2.1.symm
    · obtain ⟨cur, hb, _⟩ := h.m.row.blk
      unfold Blk at hb
      rw [hb] at hk
      simp only [Option.some.injEq, Obj.cells.injEq] at hk
      exact h2 hk.2.1.symm
  obtain ⟨W0, h0, h1, h2⟩ := h.cf
  have hsz := h2.size
  refine ⟨hm, h.ev.same (fun k cs hk => hne k cs _ hk (by decide) (by decide)), h.rc.same (fun k cs t hk ht => hne k cs t hk (by rcases ht with rfl | rfl <;> decide) (by rcases ht with rfl | rfl <;> decide)), ⟨W0, h0, h1, ?_⟩, h.hp, h.hg⟩
  exact h2.trans (hf.below (by omega) (fun k hk => by simp at hk; have := h.hp; have := h.hg; omega))
/-- What is new changes nothing. -/
theorem EnvF.below (h : EnvF B w p a s es rs) (hb : Below w.heap.size w w') : EnvF B w' p a s es rs := by
  obtain ⟨W0, h0, h1, h2⟩ := h.cf
  have hsz := h2.size
  exact ⟨h.m.below hb, h.ev.same (fun k cs hk => hb.block k (Array.getElem?_eq_some_iff.1 hk).1), h.rc.same (fun k cs t hk _ => hb.block k (Array.getElem?_eq_some_iff.1 hk).1), ⟨W0, h0, h1, h2.trans (hb.mono (by omega))⟩, h.hp, h.hg⟩
/-- A store into a block of another type changes nothing. -/
theorem EnvF.other (h : EnvF B w p a s es rs) {g : Nat} {cs : Array Value} {t : TypeId} (hg : Blk w g t cs) (hB : B ≤ g) (h1 : t ≠ 74) (h2 : t ≠ 50) (h3 : t ≠ 139) (h4 : t ≠ 82) (h5 : t ≠ 3) (hf : Fr [g] w w') : EnvF B w' p a s es rs := by
  have hne : ∀ (k : Nat) (cs' : Array Value) (t' : TypeId), w.heap[k]? = some (Obj.cells cs' t' (0, 0)) → t' ≠ t → w'.heap[k]? = w.heap[k]? := by
    intro k cs' t' hk h1
    refine hf.block k (Array.getElem?_eq_some_iff.1 hk).1 (fun hmm => ?_)
    simp only [List.mem_cons, List.not_mem_nil, or_false] at hmm
    subst hmm
    unfold Blk at hg
    rw [hg] at hk
    simp only [Option.some.injEq, Obj.cells.injEq] at hk
    exact h1 hk.2.1.symm
  obtain ⟨cur, hb, _⟩ := h.m.row.blk
  obtain ⟨W0, e0, e1, e2⟩ := h.cf
  have hsz := e2.size
  refine ⟨h.m.of_same (hne p _ _ h.m.blk (fun e => h1 e.symm)) (hne a.g _ _ hb (fun e => h2 e.symm)), h.ev.same (fun k cs hk => hne k cs _ hk (fun e => h3 e.symm)), h.rc.same (fun k cs t' hk ht => hne k cs t' hk (by rcases ht with rfl | rfl <;> intro e <;> first | exact h4 e.symm | exact h5 e.symm)), ⟨W0, e0, e1, ?_⟩, h.hp, h.hg⟩
  exact e2.trans (hf.below (by omega) (fun k hk => by simp at hk; omega))
end
end Go.Proofs.Ythiiidkkdlmneaa

namespace Go.Proofs.Ythiiidkkdlmneaa
open Go Go.RowKit Go.Shelf
set_option maxRecDepth 100000

/-- What the reference's New gives: a memory by value. -/
def RNew (w : World) (n : Nat) (e : Ending) (w' : World) : Prop :=
  e = .returned (.agg #[.slice (some ⟨w.heap.size + 1, 0, none⟩) n n, .int .i64 0, .int .i64 0, .int .u64 0, .int .u64 0, .int .i64 0]) ∧ Row w' (w.heap.size + 1) n n (List.replicate n 0) ∧ Below w.heap.size w w'

theorem rnew_end (w : World) (n : Nat) (hn : n ≤ 131072) (o : Obj) :
    RNew w n (.returned (.agg #[.slice (some ⟨w.heap.size + 1, 0, none⟩) n n, .int .i64 0, .int .i64 0, .int .u64 0, .int .u64 0, .int .i64 0])) ((w.alloc o).alloc (.cells (madeCells #[.int .u64 0] n) 50)) := by
  refine ⟨rfl, ?_, ((Below.refl _ _).alloc (Nat.le_refl _) _).alloc (by simp) _⟩
  have := made_row (w.alloc o) n hn
  simpa using this

theorem rnew_any (c : Int) (w : World) : Calls Try.prog 40 #[.int .i64 c] w (RNew w (sizeS c)) := by
  have hmk := fun (n : Nat) (hn : n ≤ 131072) (W : World) => run_make_row' (P := Try.prog) 57 50 (.int .u64 0) 8 Try.underlying57 info_u64 rfl .i64 .i64 n (by omega) (by omega) W
  have HE := Lib.hid (rnew_end w)
  by_cases h1 : c ≤ 0
  · have e : sizeS c = 0 := by unfold sizeS; rw [if_pos (by omega)]
    rw [e]
    clear e
    have hk := hmk 0 (by omega)
    rw [show ((0 : Nat) : Int) = 0 from rfl] at hk
    clear hmk
    go_enter Try.func40, Try.ntmps40
    go_wp2
    exact bodyPost_ret (v := .agg #[.slice (some ⟨w.heap.size + 1, 0, none⟩) 0 0, .int .i64 0, .int .i64 0, .int .u64 0, .int .u64 0, .int .i64 0]) (by simp [results, Try.results40, go_sem]) rfl (HE.out 0 (by omega) _)
  · by_cases h2 : c ≤ 131072
    · obtain ⟨n, rfl⟩ : ∃ n : Nat, c = (n : Int) := ⟨c.toNat, by omega⟩
      have e : sizeS n = n := by unfold sizeS; rw [if_neg h1, if_pos h2]; omega
      rw [e]
      clear e
      have hk := hmk n (by omega)
      clear hmk
      go_enter Try.func40, Try.ntmps40
      go_wp2
      exact bodyPost_ret (v := .agg #[.slice (some ⟨w.heap.size + 1, 0, none⟩) n n, .int .i64 0, .int .i64 0, .int .u64 0, .int .u64 0, .int .i64 0]) (by simp [results, Try.results40, go_sem]) rfl (HE.out n (by omega) _)
    · have e : sizeS c = 131072 := by unfold sizeS; rw [if_neg h1, if_neg h2]
      rw [e]
      clear e
      have hk := hmk 131072 (by omega)
      rw [show ((131072 : Nat) : Int) = 131072 from rfl] at hk
      clear hmk
      go_enter Try.func40, Try.ntmps40
      go_wp2
      exact bodyPost_ret (v := .agg #[.slice (some ⟨w.heap.size + 1, 0, none⟩) 131072 131072, .int .i64 0, .int .i64 0, .int .u64 0, .int .u64 0, .int .i64 0]) (by simp [results, Try.results40, go_sem]) rfl (HE.out 131072 (by omega) _)
end Go.Proofs.Ythiiidkkdlmneaa
