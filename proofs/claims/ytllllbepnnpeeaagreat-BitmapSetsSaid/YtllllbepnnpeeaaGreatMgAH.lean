/-
  The reference's environment whole: its memory, events, records and configuration. No function is named.
  The reference's Same of two rows of uint64: equal rows.
  Slices of ints that came in.
  The reference's Ints: are two lists of numbers equal?
-/
import Derived.Test.YtllllbepnnpeeaaGreatMgAE
import Derived.Test.YtllllbepnnpeeaaGreatMgAG
import Derived.Test.YtllllbepnnpeeaaGreatMgAB
import Derived.LoopTactic
import Derived.Deep.QuietTactic
import Derived.BigQuiet
import Derived.Lib.Hide
import Derived.WalkSpells
import Derived.WalkLawsBesides
namespace Go.Proofs.YtllllbepnnpeeaaGreat
open Go Go.RowKit
set_option linter.unusedSimpArgs false

/-- The environment whole: blocks from B on are its own; below B lie the lists of the configuration. -/
structure EnvF (B : Nat) (w : World) (p : Nat) (a : EnvA) (s : St) (es : List Ev) (rs : List Rec) : Prop where
  m : EnvM w p a s
  ev : OwnE w B a.ev es
  rc : OwnR w B a.rv rs
  cf : ∃ W0 : World, W0.heap.size = B ∧ Lists W0 0 a.c a.pa a.pn a.sa a.sn ∧ Below B W0 w
  hp : B ≤ p
  hg : B ≤ a.g
/-- Which blocks of an environment change. -/
def EnvA.S (a : EnvA) (p : Nat) : List Nat := p :: a.g :: (a.ev.ownBlock.toList ++ a.rv.ownBlock.toList)

section
variable {B : Nat} {w w' : World} {p : Nat} {a : EnvA} {s s' : St} {es : List Ev} {rs : List Rec}
/-- Accesses to the memory change the environment's block and its memory's alone. -/
theorem EnvF.acc (h : EnvF B w p a s es rs) (hm : EnvM w' p a s') (hf : Fr [p, a.g] w w') : EnvF B w' p a s' es rs := by
  have hne : ∀ (k : Nat) (cs : Array Value) (t : TypeId), w.heap[k]? = some (Obj.cells cs t (0, 0)) → t ≠ 115 → t ≠ 53 → w'.heap[k]? = w.heap[k]? := by
    intro k cs t hk h1 h2
    refine hf.block k (Array.getElem?_eq_some_iff.1 hk).1 (fun hmm => ?_)
    simp only [List.mem_cons, List.not_mem_nil, or_false] at hmm
    rcases hmm with rfl | rfl
    · have hb := h.m.blk
      unfold Blk at hb
      rw [hb] at hk
      simp only [Option.some.injEq, Obj.cells.injEq] at hk
      exact h1 hk.2.1.symm
    · obtain ⟨cur, hb, _⟩ := h.m.row.blk
      unfold Blk at hb
      rw [hb] at hk
      simp only [Option.some.injEq, Obj.cells.injEq] at hk
      exact h2 hk.2.1.symm
  obtain ⟨W0, h0, h1, h2⟩ := h.cf
  have hsz := h2.size
  refine ⟨hm, h.ev.same (fun k cs hk => hne k cs _ hk (by decide) (by decide)), h.rc.same (fun k cs t hk ht => hne k cs t hk (by rcases ht with rfl | rfl <;> decide) (by rcases ht with rfl | rfl <;> decide)), ⟨W0, h0, h1, ?_⟩, h.hp, h.hg⟩
  exact h2.trans (hf.below (by omega) (fun k hk => by simp at hk; have := h.hp; have := h.hg; omega))
/-- What is new changes nothing. -/
theorem EnvF.below (h : EnvF B w p a s es rs) (hb : Below w.heap.size w w') : EnvF B w' p a s es rs := by
  obtain ⟨W0, h0, h1, h2⟩ := h.cf
  have hsz := h2.size
  exact ⟨h.m.below hb, h.ev.same (fun k cs hk => hb.block k (Array.getElem?_eq_some_iff.1 hk).1), h.rc.same (fun k cs t hk _ => hb.block k (Array.getElem?_eq_some_iff.1 hk).1), ⟨W0, h0, h1, h2.trans (hb.mono (by omega))⟩, h.hp, h.hg⟩
/-- A store into a block of another type changes nothing. -/
theorem EnvF.other (h : EnvF B w p a s es rs) {g : Nat} {cs : Array Value} {t : TypeId} (hg : Blk w g t cs) (hB : B ≤ g) (h1 : t ≠ 115) (h2 : t ≠ 53) (h3 : t ≠ 189) (h4 : t ≠ 211) (h5 : t ≠ 3) (hf : Fr [g] w w') : EnvF B w' p a s es rs := by
  have hne : ∀ (k : Nat) (cs' : Array Value) (t' : TypeId), w.heap[k]? = some (Obj.cells cs' t' (0, 0)) → t' ≠ t → w'.heap[k]? = w.heap[k]? := by
    intro k cs' t' hk h1
    refine hf.block k (Array.getElem?_eq_some_iff.1 hk).1 (fun hmm => ?_)
    simp only [List.mem_cons, List.not_mem_nil, or_false] at hmm
    subst hmm
    unfold Blk at hg
    rw [hg] at hk
    simp only [Option.some.injEq, Obj.cells.injEq] at hk
    exact h1 hk.2.1.symm
  obtain ⟨cur, hb, _⟩ := h.m.row.blk
  obtain ⟨W0, e0, e1, e2⟩ := h.cf
  have hsz := e2.size
  refine ⟨h.m.of_same (hne p _ _ h.m.blk (fun e => h1 e.symm)) (hne a.g _ _ hb (fun e => h2 e.symm)), h.ev.same (fun k cs hk => hne k cs _ hk (fun e => h3 e.symm)), h.rc.same (fun k cs t' hk ht => hne k cs t' hk (by rcases ht with rfl | rfl <;> intro e <;> first | exact h4 e.symm | exact h5 e.symm)), ⟨W0, e0, e1, ?_⟩, h.hp, h.hg⟩
  exact e2.trans (hf.below (by omega) (fun k hk => by simp at hk; omega))
end
end Go.Proofs.YtllllbepnnpeeaaGreat

namespace Go.Proofs.YtllllbepnnpeeaaGreat
open Go Go.RowKit

set_option maxRecDepth 100000 in
set_option maxHeartbeats 1000000 in
theorem wsame_any {w : World} {g g' n c c' : Nat} {X : List Int} (h : Row w g n c X) (h' : Row w g' n c' X) :
    Calls Tryz.prog 64 #[.slice (some ⟨g, 0, none⟩) n c, .slice (some ⟨g', 0, none⟩) n c'] w fun e w' => e = .returned (.bool true) ∧ ∃ d, w' = w.drewN d := by
  have hmax : n ≤ 9223372036854775807 := by have := h.le; have := h.max; unfold maxLen at this; omega
  have H := Lib.hid h
  have H' := Lib.hid h'
  clear h h'
  go_enter Tryz.func64, Tryz.ntmps64
  go_wp2_with fail
  go_loopw [5] (fun i wr => ∃ (j d : Nat), j ≤ n ∧ i = .int .i64 j ∧ wr = w.drewN d) (fun i _ => n - (intOf i).toNat)
  case atStart => exact ⟨0, 0, by omega, rfl, rfl⟩
  case round =>
    obtain ⟨j, d, hj, rfl, rfl⟩ := hrel
    by_cases hlt : j < n
    · have hx := H.out.cell hlt
      have hy := H'.out.cell hlt
      generalize X.getD j 0 = u at hx hy
      go_wp2_with fail
      go_quiet (fail)
      go_wp2_with fail
      go_roundw
      case rel => exact ⟨j + 1, _, by omega, by go_num, rfl⟩
      case measure => simp [intOf]; omega
    · obtain rfl : j = n := by omega
      go_wp2
      go_ret
      exact ⟨rfl, _, rfl⟩
end Go.Proofs.YtllllbepnnpeeaaGreat

namespace Go.Proofs.YtllllbepnnpeeaaGreat
open Go Go.ChangeShapes Go.WideShapes Go.ChangeAt Go.RowKit

/-- The slice (a, n) reads as the numbers zs (ints). -/
def InInts (w : World) (a : Option Addr) (n : Nat) (zs : List Int) : Prop :=
  zs.length = n ∧ n ≤ maxLen ∧ ∀ i, i < n → ∃ x : Addr, a = some x ∧ x.block < w.heap.size ∧ w.cell? (x.add i) = some (.int .i64 (zs.getD i 0))

theorem InInts.below {w w' : World} {a : Option Addr} {n : Nat} {zs : List Int} (h : InInts w a n zs) (hb : Below w.heap.size w w') : InInts w' a n zs :=
  ⟨h.1, h.2.1, fun i hi => by
    obtain ⟨x, e, hx, hc⟩ := h.2.2 i hi
    refine ⟨x, e, Nat.lt_of_lt_of_le hx hb.size, ?_⟩
    rw [hb.cell (by rw [show (x.add i).block = x.block by unfold Addr.add; split <;> rfl]; exact hx)]
    exact hc⟩

theorem InInts.cell {w : World} {x : Addr} {n i : Nat} {zs : List Int} (h : InInts w (some x) n zs) (hi : i < n) : w.cell? (x.add i) = some (.int .i64 (zs.getD i 0)) := by
  obtain ⟨y, e, _, hc⟩ := h.2.2 i hi
  cases e
  exact hc

set_option maxRecDepth 100000 in
theorem open_introw {H : Type} {enc : TypeId × Value → H} {w : World} {base b0 : Nat} {spare : Nat → Bool} {held : Bool} {r : Reach} {v : Value} {d : DataW H} {p : List MemPlace}
    (hv : Value.okWide Tryz.prog w r b0 23 v) (h : DataW.Trod enc Tryz.prog w base spare held 23 v d p) :
    ∃ (a : Option Addr) (n c : Nat) (zs : List Int), v = .slice a n c ∧ InInts w a n zs := by
  obtain ⟨a, n, c, rfl⟩ := okWide_slice Tryz.underlying23 hv
  obtain ⟨fuel, hf⟩ := h
  rcases open_ints Tryz.underlying23 Tryz.underlying3 (by kernel_rfl) hf with ⟨hcs, _⟩ | ⟨x, l, c', zs, hcs, _, hl, hm, hz, _, hcell, _⟩
  · simp [Value.cells] at hcs
    obtain ⟨rfl, rfl, rfl⟩ := hcs
    exact ⟨_, _, _, [], rfl, rfl, by simp, fun i hi => absurd hi (by omega)⟩
  · simp [Value.cells] at hcs
    obtain ⟨rfl, rfl, rfl⟩ := hcs
    have hnz : n ≤ zs.length := by rw [hz]; split <;> omega
    refine ⟨_, _, _, zs.take n, rfl, by simp; omega, by omega, fun i hi => ⟨x, rfl, ?_, ?_⟩⟩
    · have := World.block_lt_of_cell? w _ (hcell i (by omega))
      rwa [show (x.add i).block = x.block by unfold Addr.add; split <;> rfl] at this
    · rw [hcell i (by omega), List.getD_eq_getElem?_getD, List.getD_eq_getElem?_getD, List.getElem?_take, if_pos hi]
end Go.Proofs.YtllllbepnnpeeaaGreat

namespace Go.Proofs.YtllllbepnnpeeaaGreat
open Go Go.RowKit

theorem InInts.drewN {w : World} {a : Option Addr} {n : Nat} {zs : List Int} (h : InInts w a n zs) (d : Nat) : InInts (w.drewN d) a n zs := h

theorem take_ne {zs ys : List Int} {j : Nat} (h : zs.getD j 0 ≠ ys.getD j 0) : zs ≠ ys := by
  intro e
  rw [e] at h
  exact h rfl
theorem take_more {zs ys : List Int} {j : Nat} (h1 : j < zs.length) (h2 : j < ys.length) (ht : zs.take j = ys.take j) (h : zs.getD j 0 = ys.getD j 0) : zs.take (j + 1) = ys.take (j + 1) := by
  rw [List.take_add_one, List.take_add_one, ht]
  rw [List.getD_eq_getElem?_getD, List.getD_eq_getElem?_getD, List.getElem?_eq_getElem h1, List.getElem?_eq_getElem h2] at h
  rw [List.getElem?_eq_getElem h1, List.getElem?_eq_getElem h2]
  simp only [Option.getD_some] at h
  rw [h]

/-- What Ints gives. -/
def IntsR (zs ys : List Int) (w : World) (e : Ending) (w' : World) : Prop := e = .returned (.bool (decide (zs = ys))) ∧ ∃ d, w' = w.drewN d

set_option maxRecDepth 100000 in
set_option maxHeartbeats 1000000 in
theorem rints_any {w : World} {a b : Option Addr} {n m : Nat} {zs ys : List Int} (h : InInts w a n zs) (h' : InInts w b m ys) (c c' : Nat) :
    Calls Tryz.prog 120 #[.slice a n c, .slice b m c'] w (IntsR zs ys w) := by
  have hmax := h.2.1
  unfold maxLen at hmax
  by_cases hnm : n = m
  · subst hnm
    have H := Lib.hid h
    have H' := Lib.hid h'
    have HL := Lib.hid (And.intro h.1 h'.1)
    clear h h'
    go_enter Tryz.func120, Tryz.ntmps120
    go_wp2_with fail
    go_loopw [5] (fun i wr => ∃ (j d : Nat), j ≤ n ∧ i = .int .i64 j ∧ wr = w.drewN d ∧ zs.take j = ys.take j) (fun i _ => n - (intOf i).toNat)
    case atStart => exact ⟨0, 0, by omega, rfl, rfl, by simp⟩
    case round =>
      obtain ⟨j, d, hj, rfl, rfl, ht⟩ := hrel
      have HT := Lib.hid ht
      clear ht
      by_cases hlt : j < n
      · obtain ⟨x, rfl, _, hx⟩ := H.out.2.2 j hlt
        obtain ⟨y, rfl, _, hy⟩ := H'.out.2.2 j hlt
        have HZ := Lib.hid (show zs.getD j 0 = zs.getD j 0 from rfl)
        obtain ⟨u, hu⟩ : ∃ u, zs.getD j 0 = u := ⟨_, rfl⟩
        obtain ⟨v, hv⟩ : ∃ v, ys.getD j 0 = v := ⟨_, rfl⟩
        rw [hu] at hx
        rw [hv] at hy
        have HU := Lib.hid hu
        have HV := Lib.hid hv
        clear hu hv HZ
        by_cases he : u = v
        · subst he
          go_wp2_with fail
          go_quiet (fail)
          go_wp2_with fail
          go_roundw
          case rel => exact ⟨j + 1, _, by omega, by go_num, rfl, take_more (by rw [HL.out.1]; exact hlt) (by rw [HL.out.2]; exact hlt) HT.out (HU.out.trans HV.out.symm)⟩
          case measure => simp [intOf]; omega
        · have he' : (u == v) = false := by simpa using he
          go_wp2_with fail
          go_quiet (fail)
          go_wp2
          go_ret
          exact ⟨congrArg (fun b => Ending.returned (Value.bool b)) (decide_eq_false (take_ne (by rw [HU.out, HV.out]; exact he))).symm, _, World.drewN_drewN _ _ _⟩
      · obtain rfl : j = n := by omega
        go_wp2
        go_ret
        have ht := HT.out
        rw [List.take_of_length_le (by rw [HL.out.1]; exact Nat.le_refl _), List.take_of_length_le (by rw [HL.out.2]; exact Nat.le_refl _)] at ht
        exact ⟨congrArg (fun b => Ending.returned (Value.bool b)) (decide_eq_true ht).symm, _, rfl⟩
  · have hd : ((n : Int) == (m : Int)) = false := by simp; omega
    have hne : zs ≠ ys := by
      intro e
      apply hnm
      rw [← h.1, ← h'.1, e]
    have HNE := Lib.hid hne
    clear h h' hne
    go_enter Tryz.func120, Tryz.ntmps120
    go_wp2
    go_ret
    exact ⟨congrArg (fun b => Ending.returned (Value.bool b)) (decide_eq_false HNE.out).symm, 0, rfl⟩
end Go.Proofs.YtllllbepnnpeeaaGreat
