/-
  The reference's environment whole: its memory, events, records and configuration. No function is named.
  The reference's Same of two rows of uint64: equal rows.
  Slices of ints that came in.
  The reference's Ints: are two lists of numbers equal?
  The reference's SameRecords: two rows of the same records.
-/
import Derived.Test.YtllllbepnnpeeaaMgAN
import Derived.Test.YtllllbepnnpeeaaMgAO
import Derived.Test.YtllllbepnnpeeaaMgAA
import Derived.LoopTactic
import Derived.Deep.QuietTactic
import Derived.BigQuiet
import Derived.Lib.Hide
import Derived.WalkSpells
import Derived.WalkLawsBesides
import Derived.StillTailTactics
import Derived.RegionTactic
import Derived.BigRegion
import Derived.Deep.Cut
import Derived.Deep.CutRange
namespace Go.Proofs.Ytllllbepnnpeeaa
open Go Go.RowKit
set_option linter.unusedSimpArgs false

/-- The environment whole: blocks from B on are its own; below B lie the lists of the configuration. -/
structure EnvF (B : Nat) (w : World) (p : Nat) (a : EnvA) (s : St) (es : List Ev) (rs : List Rec) : Prop where
  m : EnvM w p a s
  ev : OwnE w B a.ev es
  rc : OwnR w B a.rv rs
  cf : ∃ W0 : World, W0.heap.size = B ∧ Lists W0 0 a.c a.pa a.pn a.sa a.sn ∧ Below B W0 w
  hp : B ≤ p
  hg : B ≤ a.g
/-- Which blocks of an environment change. -/
def EnvA.S (a : EnvA) (p : Nat) : List Nat := p :: a.g :: (a.ev.ownBlock.toList ++ a.rv.ownBlock.toList)

section
variable {B : Nat} {w w' : World} {p : Nat} {a : EnvA} {s s' : St} {es : List Ev} {rs : List Rec}
/-- Accesses to the memory change the environment's block and its memory's alone. -/
theorem EnvF.acc (h : EnvF B w p a s es rs) (hm : EnvM w' p a s') (hf : Fr [p, a.g] w w') : EnvF B w' p a s' es rs := by
  have hne : ∀ (k : Nat) (cs : Array Value) (t : TypeId), w.heap[k]? = some (Obj.cells cs t (0, 0)) → t ≠ 110 → t ≠ 39 → w'.heap[k]? = w.heap[k]? := by
    intro k cs t hk h1 h2
    refine hf.block k (Array.getElem?_eq_some_iff.1 hk).1 (fun hmm => ?_)
    simp only [List.mem_cons, List.not_mem_nil, or_false] at hmm
    rcases hmm with rfl | rfl
    · have hb := h.m.blk
      unfold Blk at hb
      rw [hb] at hk
      simp only [Option.some.injEq, Obj.cells.injEq] at hk
      exact h1 hk.2.1.symm
    · obtain ⟨cur, hb, _⟩ := h.m.row.blk
      unfold Blk at hb
      rw [hb] at hk
      simp only [Option.some.injEq, Obj.cells.injEq] at hk
      exact h2 hk.2.1.symm
  obtain ⟨W0, h0, h1, h2⟩ := h.cf
  have hsz := h2.size
  refine ⟨hm, h.ev.same (fun k cs hk => hne k cs _ hk (by decide) (by decide)), h.rc.same (fun k cs t hk ht => hne k cs t hk (by rcases ht with rfl | rfl <;> decide) (by rcases ht with rfl | rfl <;> decide)), ⟨W0, h0, h1, ?_⟩, h.hp, h.hg⟩
  exact h2.trans (hf.below (by omega) (fun k hk => by simp at hk; have := h.hp; have := h.hg; omega))
/-- What is new changes nothing. -/
theorem EnvF.below (h : EnvF B w p a s es rs) (hb : Below w.heap.size w w') : EnvF B w' p a s es rs := by
  obtain ⟨W0, h0, h1, h2⟩ := h.cf
  have hsz := h2.size
  exact ⟨h.m.below hb, h.ev.same (fun k cs hk => hb.block k (Array.getElem?_eq_some_iff.1 hk).1), h.rc.same (fun k cs t hk _ => hb.block k (Array.getElem?_eq_some_iff.1 hk).1), ⟨W0, h0, h1, h2.trans (hb.mono (by omega))⟩, h.hp, h.hg⟩
/-- A store into a block of another type changes nothing. -/
theorem EnvF.other (h : EnvF B w p a s es rs) {g : Nat} {cs : Array Value} {t : TypeId} (hg : Blk w g t cs) (hB : B ≤ g) (h1 : t ≠ 110) (h2 : t ≠ 39) (h3 : t ≠ 172) (h4 : t ≠ 177) (h5 : t ≠ 3) (hf : Fr [g] w w') : EnvF B w' p a s es rs := by
  have hne : ∀ (k : Nat) (cs' : Array Value) (t' : TypeId), w.heap[k]? = some (Obj.cells cs' t' (0, 0)) → t' ≠ t → w'.heap[k]? = w.heap[k]? := by
    intro k cs' t' hk h1
    refine hf.block k (Array.getElem?_eq_some_iff.1 hk).1 (fun hmm => ?_)
    simp only [List.mem_cons, List.not_mem_nil, or_false] at hmm
    subst hmm
    unfold Blk at hg
    rw [hg] at hk
    simp only [Option.some.injEq, Obj.cells.injEq] at hk
    exact h1 hk.2.1.symm
  obtain ⟨cur, hb, _⟩ := h.m.row.blk
  obtain ⟨W0, e0, e1, e2⟩ := h.cf
  have hsz := e2.size
  refine ⟨h.m.of_same (hne p _ _ h.m.blk (fun e => h1 e.symm)) (hne a.g _ _ hb (fun e => h2 e.symm)), h.ev.same (fun k cs hk => hne k cs _ hk (fun e => h3 e.symm)), h.rc.same (fun k cs t' hk ht => hne k cs t' hk (by rcases ht with rfl | rfl <;> intro e <;> first | exact h4 e.symm | exact h5 e.symm)), ⟨W0, e0, e1, ?_⟩, h.hp, h.hg⟩
  exact e2.trans (hf.below (by omega) (fun k hk => by simp at hk; omega))
end
end Go.Proofs.Ytllllbepnnpeeaa

namespace Go.Proofs.Ytllllbepnnpeeaa
open Go Go.RowKit

set_option maxRecDepth 100000 in
set_option maxHeartbeats 1000000 in
theorem wsame_any {w : World} {g g' n c c' : Nat} {X : List Int} (h : Row w g n c X) (h' : Row w g' n c' X) :
    Calls Try.prog 65 #[.slice (some ⟨g, 0, none⟩) n c, .slice (some ⟨g', 0, none⟩) n c'] w fun e w' => e = .returned (.bool true) ∧ ∃ d, w' = w.drewN d := by
  have hmax : n ≤ 9223372036854775807 := by have := h.le; have := h.max; unfold maxLen at this; omega
  have H := Lib.hid h
  have H' := Lib.hid h'
  clear h h'
  go_enter Try.func65, Try.ntmps65
  go_wp2_with fail
  go_loopw [5] (fun i wr => ∃ (j d : Nat), j ≤ n ∧ i = .int .i64 j ∧ wr = w.drewN d) (fun i _ => n - (intOf i).toNat)
  case atStart => exact ⟨0, 0, by omega, rfl, rfl⟩
  case round =>
    obtain ⟨j, d, hj, rfl, rfl⟩ := hrel
    by_cases hlt : j < n
    · have hx := H.out.cell hlt
      have hy := H'.out.cell hlt
      generalize X.getD j 0 = u at hx hy
      go_wp2_with fail
      go_quiet (fail)
      go_wp2_with fail
      go_roundw
      case rel => exact ⟨j + 1, _, by omega, by go_num, rfl⟩
      case measure => simp [intOf]; omega
    · obtain rfl : j = n := by omega
      go_wp2
      go_ret
      exact ⟨rfl, _, rfl⟩
end Go.Proofs.Ytllllbepnnpeeaa

namespace Go.Proofs.Ytllllbepnnpeeaa
open Go Go.ChangeShapes Go.WideShapes Go.ChangeAt Go.RowKit

/-- The slice (a, n) reads as the numbers zs (ints). -/
def InInts (w : World) (a : Option Addr) (n : Nat) (zs : List Int) : Prop :=
  zs.length = n ∧ n ≤ maxLen ∧ ∀ i, i < n → ∃ x : Addr, a = some x ∧ x.block < w.heap.size ∧ w.cell? (x.add i) = some (.int .i64 (zs.getD i 0))

theorem InInts.below {w w' : World} {a : Option Addr} {n : Nat} {zs : List Int} (h : InInts w a n zs) (hb : Below w.heap.size w w') : InInts w' a n zs :=
  ⟨h.1, h.2.1, fun i hi => by
    obtain ⟨x, e, hx, hc⟩ := h.2.2 i hi
    refine ⟨x, e, Nat.lt_of_lt_of_le hx hb.size, ?_⟩
    rw [hb.cell (by rw [show (x.add i).block = x.block by unfold Addr.add; split <;> rfl]; exact hx)]
    exact hc⟩

theorem InInts.cell {w : World} {x : Addr} {n i : Nat} {zs : List Int} (h : InInts w (some x) n zs) (hi : i < n) : w.cell? (x.add i) = some (.int .i64 (zs.getD i 0)) := by
  obtain ⟨y, e, _, hc⟩ := h.2.2 i hi
  cases e
  exact hc

set_option maxRecDepth 100000 in
theorem open_introw {H : Type} {enc : TypeId × Value → H} {w : World} {base b0 : Nat} {spare : Nat → Bool} {held : Bool} {r : Reach} {v : Value} {d : DataW H} {p : List MemPlace}
    (hv : Value.okWide Try.prog w r b0 24 v) (h : DataW.Trod enc Try.prog w base spare held 24 v d p) :
    ∃ (a : Option Addr) (n c : Nat) (zs : List Int), v = .slice a n c ∧ InInts w a n zs := by
  obtain ⟨a, n, c, rfl⟩ := okWide_slice Try.underlying24 hv
  obtain ⟨fuel, hf⟩ := h
  rcases open_ints Try.underlying24 Try.underlying3 (by kernel_rfl) hf with ⟨hcs, _⟩ | ⟨x, l, c', zs, hcs, _, hl, hm, hz, _, hcell, _⟩
  · simp [Value.cells] at hcs
    obtain ⟨rfl, rfl, rfl⟩ := hcs
    exact ⟨_, _, _, [], rfl, rfl, by simp, fun i hi => absurd hi (by omega)⟩
  · simp [Value.cells] at hcs
    obtain ⟨rfl, rfl, rfl⟩ := hcs
    have hnz : n ≤ zs.length := by rw [hz]; split <;> omega
    refine ⟨_, _, _, zs.take n, rfl, by simp; omega, by omega, fun i hi => ⟨x, rfl, ?_, ?_⟩⟩
    · have := World.block_lt_of_cell? w _ (hcell i (by omega))
      rwa [show (x.add i).block = x.block by unfold Addr.add; split <;> rfl] at this
    · rw [hcell i (by omega), List.getD_eq_getElem?_getD, List.getD_eq_getElem?_getD, List.getElem?_take, if_pos hi]
end Go.Proofs.Ytllllbepnnpeeaa

namespace Go.Proofs.Ytllllbepnnpeeaa
open Go Go.RowKit

theorem InInts.drewN {w : World} {a : Option Addr} {n : Nat} {zs : List Int} (h : InInts w a n zs) (d : Nat) : InInts (w.drewN d) a n zs := h

theorem take_ne {zs ys : List Int} {j : Nat} (h : zs.getD j 0 ≠ ys.getD j 0) : zs ≠ ys := by
  intro e
  rw [e] at h
  exact h rfl
theorem take_more {zs ys : List Int} {j : Nat} (h1 : j < zs.length) (h2 : j < ys.length) (ht : zs.take j = ys.take j) (h : zs.getD j 0 = ys.getD j 0) : zs.take (j + 1) = ys.take (j + 1) := by
  rw [List.take_add_one, List.take_add_one, ht]
  rw [List.getD_eq_getElem?_getD, List.getD_eq_getElem?_getD, List.getElem?_eq_getElem h1, List.getElem?_eq_getElem h2] at h
  rw [List.getElem?_eq_getElem h1, List.getElem?_eq_getElem h2]
  simp only [Option.getD_some] at h
  rw [h]

/-- What Ints gives. -/
def IntsR (zs ys : List Int) (w : World) (e : Ending) (w' : World) : Prop := e = .returned (.bool (decide (zs = ys))) ∧ ∃ d, w' = w.drewN d

set_option maxRecDepth 100000 in
set_option maxHeartbeats 1000000 in
theorem rints_any {w : World} {a b : Option Addr} {n m : Nat} {zs ys : List Int} (h : InInts w a n zs) (h' : InInts w b m ys) (c c' : Nat) :
    Calls Try.prog 79 #[.slice a n c, .slice b m c'] w (IntsR zs ys w) := by
  have hmax := h.2.1
  unfold maxLen at hmax
  by_cases hnm : n = m
  · subst hnm
    have H := Lib.hid h
    have H' := Lib.hid h'
    have HL := Lib.hid (And.intro h.1 h'.1)
    clear h h'
    go_enter Try.func79, Try.ntmps79
    go_wp2_with fail
    go_loopw [5] (fun i wr => ∃ (j d : Nat), j ≤ n ∧ i = .int .i64 j ∧ wr = w.drewN d ∧ zs.take j = ys.take j) (fun i _ => n - (intOf i).toNat)
    case atStart => exact ⟨0, 0, by omega, rfl, rfl, by simp⟩
    case round =>
      obtain ⟨j, d, hj, rfl, rfl, ht⟩ := hrel
      have HT := Lib.hid ht
      clear ht
      by_cases hlt : j < n
      · obtain ⟨x, rfl, _, hx⟩ := H.out.2.2 j hlt
        obtain ⟨y, rfl, _, hy⟩ := H'.out.2.2 j hlt
        have HZ := Lib.hid (show zs.getD j 0 = zs.getD j 0 from rfl)
        obtain ⟨u, hu⟩ : ∃ u, zs.getD j 0 = u := ⟨_, rfl⟩
        obtain ⟨v, hv⟩ : ∃ v, ys.getD j 0 = v := ⟨_, rfl⟩
        rw [hu] at hx
        rw [hv] at hy
        have HU := Lib.hid hu
        have HV := Lib.hid hv
        clear hu hv HZ
        by_cases he : u = v
        · subst he
          go_wp2_with fail
          go_quiet (fail)
          go_wp2_with fail
          go_roundw
          case rel => exact ⟨j + 1, _, by omega, by go_num, rfl, take_more (by rw [HL.out.1]; exact hlt) (by rw [HL.out.2]; exact hlt) HT.out (HU.out.trans HV.out.symm)⟩
          case measure => simp [intOf]; omega
        · have he' : (u == v) = false := by simpa using he
          go_wp2_with fail
          go_quiet (fail)
          go_wp2
          go_ret
          exact ⟨congrArg (fun b => Ending.returned (Value.bool b)) (decide_eq_false (take_ne (by rw [HU.out, HV.out]; exact he))).symm, _, World.drewN_drewN _ _ _⟩
      · obtain rfl : j = n := by omega
        go_wp2
        go_ret
        have ht := HT.out
        rw [List.take_of_length_le (by rw [HL.out.1]; exact Nat.le_refl _), List.take_of_length_le (by rw [HL.out.2]; exact Nat.le_refl _)] at ht
        exact ⟨congrArg (fun b => Ending.returned (Value.bool b)) (decide_eq_true ht).symm, _, rfl⟩
  · have hd : ((n : Int) == (m : Int)) = false := by simp; omega
    have hne : zs ≠ ys := by
      intro e
      apply hnm
      rw [← h.1, ← h'.1, e]
    have HNE := Lib.hid hne
    clear h h' hne
    go_enter Try.func79, Try.ntmps79
    go_wp2
    go_ret
    exact ⟨congrArg (fun b => Ending.returned (Value.bool b)) (decide_eq_false HNE.out).symm, 0, rfl⟩
end Go.Proofs.Ytllllbepnnpeeaa

namespace Go.Proofs.Ytllllbepnnpeeaa
open Go Go.RowKit
set_option linter.unusedSimpArgs false

theorem OwnI.inInts {w : World} {B : Nat} {v : Value} {l : List Int} (h : OwnI w B v l) : ∃ a c, v = .slice a l.length c ∧ InInts w a l.length l := by
  rcases h.2 with ⟨rfl, h2⟩ | ⟨g, cap, cur, rfl, h2, hg, hn, hc, hz, ht⟩
  · exact ⟨none, 0, by rw [h2], rfl, by omega, fun i hi => by omega⟩
  · refine ⟨_, cap, rfl, rfl, by omega, fun i hi => ⟨_, rfl, (Array.getElem?_eq_some_iff.1 hg).1, ?_⟩⟩
    have e : (⟨g, 0, none⟩ : Addr).add i = ⟨g, i, none⟩ := by unfold Addr.add; split <;> simp_all
    obtain ⟨a, c', e', _, h1⟩ := OwnI.form ⟨h.1, .inr ⟨g, cap, cur, rfl, h2, hg, hn, hc, hz, ht⟩⟩
    obtain ⟨g', rfl, h3⟩ := h1 i hi
    cases e'
    rw [e]
    exact h3

/-- A row of records, read at element i: its cells and its children. -/
theorem OwnR.cells_at {w : World} {B : Nat} {v : Value} {rs : List Rec} (h : OwnR w B v rs) {i : Nat} (hi : i < rs.length) :
    ∃ (x : Addr) (c : Nat) (ka : Option Addr) (kc : Nat), v = .slice (some x) rs.length c ∧ (x.off = 0 ∧ x.spot = none) ∧ x.block < w.heap.size ∧ InInts w ka (rs.getD i zrec).ks.length (rs.getD i zrec).ks ∧
      (∀ j, j < 7 → w.cell? ⟨x.block, i * 7 + j, none⟩ = (rcl (rs.getD i zrec) (.slice ka (rs.getD i zrec).ks.length kc))[j]?) := by
  obtain ⟨x, c, k, hv, hx, _, hk, hc, _, cs, hb⟩ := h.at_ hi
  obtain ⟨ka, kc, rfl, hin⟩ := hk.inInts
  exact ⟨x, c, ka, kc, hv, hx, hb.lt, hin, hc⟩

theorem two_new (w : World) (cs ds : Array Value) : Blk ((w.alloc (.cells cs 177)).alloc (.cells ds 177)).drew w.heap.size 177 cs ∧ Blk ((w.alloc (.cells cs 177)).alloc (.cells ds 177)).drew (w.heap.size + 1) 177 ds ∧
    Below w.heap.size w ((w.alloc (.cells cs 177)).alloc (.cells ds 177)).drew := by
  refine ⟨(Blk.made w 177 cs).of_same (Below.heap_alloc _ _ _ (by simp)), ?_, below_drew (((Below.refl _ _).alloc (Nat.le_refl _) _).alloc (by simp) _)⟩
  have := Blk.made (w.alloc (.cells cs 177)) 177 ds
  rw [show (w.alloc (.cells cs 177)).heap.size = w.heap.size + 1 by simp] at this
  exact this

set_option maxRecDepth 100000 in
set_option maxHeartbeats 4000000 in
theorem recsame_any {w : World} {B B' : Nat} {v v' : Value} {rs : List Rec} (h : OwnR w B v rs) (h' : OwnR w B' v' rs) (hm : rs.length ≤ 1000000) :
    Calls Try.prog 78 #[v, v'] w fun e w' => e = .returned (.bool true) ∧ Below w.heap.size w w' := by
  obtain ⟨xa, xc, hv⟩ := h.form
  obtain ⟨ya, yc, hv'⟩ := h'.form
  rw [hv, hv']
  obtain ⟨n, hn⟩ : ∃ n, rs.length = n := ⟨_, rfl⟩
  rw [hn]
  have H := Lib.hid h
  have H' := Lib.hid h'
  have HN := Lib.hid hn
  have HV := Lib.hid hv
  have HV' := Lib.hid hv'
  rw [hn] at hm
  clear h h' hn hv hv'
  go_enter Try.func78, Try.ntmps78
  go_wp2_with fail
  go_loopw [5] (fun i wr => ∃ j : Nat, j ≤ n ∧ i = .int .i64 j ∧ Below w.heap.size w wr) (fun i _ => n - (intOf i).toNat)
  case atStart => exact ⟨0, by omega, rfl, Below.refl _ _⟩
  case round =>
    obtain ⟨j, hj, rfl, hb⟩ := hrel
    by_cases hlt : j < n
    · have hR : OwnR wr B v rs := H.out.same (fun k cs t hk _ => hb.block k (Array.getElem?_eq_some_iff.1 hk).1)
      have hR' : OwnR wr B' v' rs := H'.out.same (fun k cs t hk _ => hb.block k (Array.getElem?_eq_some_iff.1 hk).1)
      obtain ⟨x, c, ka, kc, ev, hx, hxl, hin, hc⟩ := hR.cells_at (i := j) (by rw [HN.out]; exact hlt)
      obtain ⟨y, c2, kb, kd, ev2, hy, hyl, hin2, hd⟩ := hR'.cells_at (i := j) (by rw [HN.out]; exact hlt)
      rw [HV.out] at ev
      rw [HV'.out] at ev2
      cases ev
      cases ev2
      obtain ⟨r, hr⟩ : ∃ r, rs.getD j zrec = r := ⟨_, rfl⟩
      rw [hr] at hin hc hin2 hd
      obtain ⟨kn, hkn⟩ : ∃ kn, r.ks.length = kn := ⟨_, rfl⟩
      rw [hkn] at hin hc hin2 hd
      have a0 := hc 0 (by omega)
      have a1 := hc 1 (by omega)
      have a2 := hc 2 (by omega)
      have a3 := hc 3 (by omega)
      have a4 := hc 4 (by omega)
      have a5 := hc 5 (by omega)
      have a6 := hc 6 (by omega)
      have b0 := hd 0 (by omega)
      have b1 := hd 1 (by omega)
      have b2 := hd 2 (by omega)
      have b3 := hd 3 (by omega)
      have b4 := hd 4 (by omega)
      have b5 := hd 5 (by omega)
      have b6 := hd 6 (by omega)
      simp only [List.getElem?_cons_zero, List.getElem?_cons_succ] at a0 a1 a2 a3 a4 a5 a6 b0 b1 b2 b3 b4 b5 b6
      obtain ⟨xb, xo, xs⟩ := x
      obtain ⟨rfl, rfl⟩ := hx
      obtain ⟨yb, yo, ys⟩ := y
      obtain ⟨rfl, rfl⟩ := hy
      have HIN := Lib.hid hin
      have HIN2 := Lib.hid hin2
      have HBB := Lib.hid hb
      clear hR hR' hc hd hr hkn hin hin2 hb
      have a0 : wr.cell? ⟨xb, j * 7, none⟩ = some (.int .i64 r.pg) := a0
      have a1 : wr.cell? ⟨xb, j * 7 + 1, none⟩ = some (.int .i64 r.pt) := a1
      have a2 : wr.cell? ⟨xb, j * 7 + 2, none⟩ = some (.int .i64 r.pc) := a2
      have a3 : wr.cell? ⟨xb, j * 7 + 3, none⟩ = some (.int .i64 r.lf) := a3
      have a4 : wr.cell? ⟨xb, j * 7 + 4, none⟩ = some (.int .i64 r.wt) := a4
      have a5 : wr.cell? ⟨xb, j * 7 + 5, none⟩ = some (.slice ka kn kc) := a5
      have a6 : wr.cell? ⟨xb, j * 7 + 6, none⟩ = some (.bool r.st) := a6
      have b0 : wr.cell? ⟨yb, j * 7, none⟩ = some (.int .i64 r.pg) := b0
      have b1 : wr.cell? ⟨yb, j * 7 + 1, none⟩ = some (.int .i64 r.pt) := b1
      have b2 : wr.cell? ⟨yb, j * 7 + 2, none⟩ = some (.int .i64 r.pc) := b2
      have b3 : wr.cell? ⟨yb, j * 7 + 3, none⟩ = some (.int .i64 r.lf) := b3
      have b4 : wr.cell? ⟨yb, j * 7 + 4, none⟩ = some (.int .i64 r.wt) := b4
      have b5 : wr.cell? ⟨yb, j * 7 + 5, none⟩ = some (.slice kb kn kd) := b5
      have b6 : wr.cell? ⟨yb, j * 7 + 6, none⟩ = some (.bool r.st) := b6
      have hxl : xb < wr.heap.size := hxl
      have hyl : yb < wr.heap.size := hyl
      go_upto_region 6 with fail
      go_cut [6, 7] from 19 to 26 (fun s6 s7 wx => ∃ p q : Nat, s6 = .pointer (some ⟨p, 0, none⟩) ∧ s7 = .pointer (some ⟨q, 0, none⟩) ∧ Blk wx p 177 #[.int .i64 r.pg, .int .i64 r.pt, .int .i64 r.pc, .int .i64 r.lf, .int .i64 r.wt, .slice ka kn kc, .bool r.st] ∧ Blk wx q 177 #[.int .i64 r.pg, .int .i64 r.pt, .int .i64 r.pc, .int .i64 r.lf, .int .i64 r.wt, .slice kb kn kd, .bool r.st] ∧ Below wr.heap.size wr wx)
      case first =>
        go_region
        all_goals go_wp2_with fail
        all_goals go_meet
        all_goals (case rel =>
          first
          | exact ⟨_, _, rfl, rfl, (two_new wr _ _).1, (two_new wr _ _).2.1, (two_new wr _ _).2.2⟩
          | exact ⟨_, _, rfl, rfl, (two_new wr _ _).2.1, (two_new wr _ _).1, (two_new wr _ _).2.2⟩)
      case rest =>
        obtain ⟨p, q, rfl, rfl, hp, hq, hbx⟩ := hcut
        clear a0 a1 a2 a3 a4 a5 a6 b0 b1 b2 b3 b4 b5 b6
        have a0 : wc.cell? ⟨p, 0, none⟩ = some (.int .i64 r.pg) := hp.at_ 0
        have a1 : wc.cell? ⟨p, 1, none⟩ = some (.int .i64 r.pt) := hp.at_ 1
        have a2 : wc.cell? ⟨p, 2, none⟩ = some (.int .i64 r.pc) := hp.at_ 2
        have a3 : wc.cell? ⟨p, 3, none⟩ = some (.int .i64 r.lf) := hp.at_ 3
        have a4 : wc.cell? ⟨p, 4, none⟩ = some (.int .i64 r.wt) := hp.at_ 4
        have a5 : wc.cell? ⟨p, 5, none⟩ = some (.slice ka kn kc) := hp.at_ 5
        have a6 : wc.cell? ⟨p, 6, none⟩ = some (.bool r.st) := hp.at_ 6
        have b0 : wc.cell? ⟨q, 0, none⟩ = some (.int .i64 r.pg) := hq.at_ 0
        have b1 : wc.cell? ⟨q, 1, none⟩ = some (.int .i64 r.pt) := hq.at_ 1
        have b2 : wc.cell? ⟨q, 2, none⟩ = some (.int .i64 r.pc) := hq.at_ 2
        have b3 : wc.cell? ⟨q, 3, none⟩ = some (.int .i64 r.lf) := hq.at_ 3
        have b4 : wc.cell? ⟨q, 4, none⟩ = some (.int .i64 r.wt) := hq.at_ 4
        have b5 : wc.cell? ⟨q, 5, none⟩ = some (.slice kb kn kd) := hq.at_ 5
        have b6 : wc.cell? ⟨q, 6, none⟩ = some (.bool r.st) := hq.at_ 6
        have HII := Lib.hid (rints_any (HIN.out.below hbx) (HIN2.out.below hbx) kc kd)
        have HB := Lib.hid (HBB.out.trans (hbx.mono HBB.out.size))
        clear hp hq hbx
        generalize r.pg = r0 at *
        generalize r.pt = r1 at *
        generalize r.pc = r2 at *
        generalize r.lf = r3 at *
        generalize r.wt = r4 at *
        generalize r.st = r6 at *
        go_wp2_with fail
        (with_reducible refine HII.out.mono ?_)
        rintro e w5 ⟨rfl, d5, rfl⟩
        rw [decide_eq_true rfl]
        go_wp2_with fail
        go_roundw
        case rel => exact ⟨j + 1, by omega, by go_num, HB.out.trans ((below_drewN _ _).mono HB.out.size)⟩
        case measure => simp [intOf]; omega
    · obtain rfl : j = n := by omega
      have HB := Lib.hid hb
      clear hb
      go_wp2
      go_ret
      exact ⟨rfl, HB.out⟩
end Go.Proofs.Ytllllbepnnpeeaa
