/-
  Contract of memory.New.
  Package clock: New, Now, Copy.
  Package machine: the environment of the program, Bare.
  The reference's Same of two rows of uint64: equal rows.
  Slices of ints that came in.
  The reference's Ints: are two lists of numbers equal?
-/
import Derived.Test.YtanbjdlaolgepaaGreatMgAN
import Derived.Test.YtanbjdlaolgepaaGreatMgAI
import Derived.Maps.AppendAt
import Derived.OwnWalk
import Derived.Deep.RegionHeld3
import Derived.Deep.OwnRows
import Derived.Test.YtanbjdlaolgepaaGreatMgAA
import Derived.WalkSpells
import Derived.WalkLawsBesides
import Derived.Lib.Hide
import Derived.IntWalk
import Derived.StillTailTactics
import Derived.Deep.Cut
import Derived.Deep.CutRange
import Derived.LoopTactic
import Derived.Deep.QuietTactic
import Derived.BigQuiet
import Derived.Test.YtanbjdlaolgepaaGreatMgAB
namespace Go.Proofs.YtanbjdlaolgepaaGreat
open Go Go.RowKit Go.Shelf

theorem Row.alloc {w : World} {g n cap : Nat} {X : List Int} (h : Row w g n cap X) (o : Obj) : Row (w.alloc o) g n cap X := h.of_same (Below.heap_alloc w o g h.lt)

theorem new_mem (w : World) (n : Nat) (hn : n ≤ 131072) :
    Mem ((w.alloc (.cells (madeCells #[.int .u64 0] n) 46)).alloc (.cells #[.slice (some ⟨w.heap.size, 0, none⟩) n n, .int .i64 0, .int .i64 0, .int .i64 0, .int .u64 0, .int .u64 0] 127)) (w.heap.size + 1) w.heap.size n (St.new n) := by
  refine ⟨?_, ?_, by simpa [St.new] using hn⟩
  · have := Blk.made (w.alloc (.cells (madeCells #[.int .u64 0] n) 46)) 127 #[.slice (some ⟨w.heap.size, 0, none⟩) n n, .int .i64 0, .int .i64 0, .int .i64 0, .int .u64 0, .int .u64 0]
    simpa [St.new] using this
  · have := (made_row w n hn).alloc (.cells #[.slice (some ⟨w.heap.size, 0, none⟩) n n, .int .i64 0, .int .i64 0, .int .i64 0, .int .u64 0, .int .u64 0] 127)
    simpa [St.new] using this


theorem mnew_any (c : Int) (w : World) :
    Calls Tryz.prog 62 #[.int .i64 c] w fun e w' => e = .returned (.pointer (some ⟨w.heap.size + 1, 0, none⟩)) ∧ Mem w' (w.heap.size + 1) w.heap.size (sizeS c) (St.new (sizeS c)) ∧ Below w.heap.size w w' := by
  have hmk := fun (n : Nat) (hn : n ≤ 131072) (W : World) => run_make_row' (P := Tryz.prog) 22 46 (.int .u64 0) 8 Tryz.underlying22 info_u64 rfl .i64 .i64 n (by omega) (by omega) W
  have hb : ∀ o o' : Obj, Below w.heap.size w ((w.alloc o).alloc o') := fun o o' => ((Below.refl _ _).alloc (Nat.le_refl _) _).alloc (by simp) _
  have HM := Lib.hid (new_mem w)
  have HB := Lib.hid hb
  clear hb
  by_cases h1 : c < 0
  · have e : sizeS c = 0 := by unfold sizeS; rw [if_pos (by omega)]
    rw [e]
    clear e
    have hk := hmk 0 (by omega)
    rw [show ((0 : Nat) : Int) = 0 from rfl] at hk
    clear hmk
    go_enter Tryz.func62, Tryz.ntmps62
    go_wp2
    go_ret
    exact ⟨rfl, HM.out 0 (by omega), HB.out _ _⟩
  · by_cases h2 : c ≤ 131072
    · obtain ⟨n, rfl⟩ : ∃ n : Nat, c = (n : Int) := ⟨c.toNat, by omega⟩
      have e : sizeS n = n := by unfold sizeS; split <;> omega
      rw [e]
      clear e
      have hk := hmk n (by omega)
      clear hmk
      go_enter Tryz.func62, Tryz.ntmps62
      go_wp2
      go_ret
      exact ⟨rfl, HM.out n (by omega), HB.out _ _⟩
    · have e : sizeS c = 131072 := by unfold sizeS; split <;> omega
      rw [e]
      clear e
      have hk := hmk 131072 (by omega)
      rw [show ((131072 : Nat) : Int) = 131072 from rfl] at hk
      clear hmk
      go_enter Tryz.func62, Tryz.ntmps62
      go_wp2
      go_ret
      exact ⟨rfl, HM.out 131072 (by omega), HB.out _ _⟩

end Go.Proofs.YtanbjdlaolgepaaGreat

namespace Go.Proofs.YtanbjdlaolgepaaGreat
open Go Go.RowKit

/-- Block p is a clock with time t and draw d. -/
def Clk (w : World) (p : Nat) (t d : Int) : Prop := Blk w p 130 #[.int .i64 t, .int .i64 d]

theorem Clk.fr {S : List Nat} {w w' : World} {p : Nat} {t d : Int} (h : Clk w p t d) (f : Fr S w w') (hp : p ∉ S) : Clk w' p t d := Blk.of_same h (f.block p (Blk.lt h) hp)
theorem Clk.below {w w' : World} {p : Nat} {t d : Int} (h : Clk w p t d) (f : Below w.heap.size w w') : Clk w' p t d := h.fr (Fr.old (S := []) f) (by simp)

theorem cnew_any (w : World) :
    Calls Tryz.prog 63 #[] w fun e w' => e = .returned (.pointer (some ⟨w.heap.size, 0, none⟩)) ∧ Clk w' w.heap.size 0 0 ∧ Below w.heap.size w w' := by
  go_enter Tryz.func63, Tryz.ntmps63
  go_wp2
  go_ret
  exact ⟨rfl, Blk.made w _ _, (Below.refl _ _).alloc (Nat.le_refl _) _⟩

end Go.Proofs.YtanbjdlaolgepaaGreat

namespace Go.Proofs.YtanbjdlaolgepaaGreat
open Go Go.RowKit Go.Shelf

/-- Block p is an environment of the program: ahead of its pointers stand the cells hd of its configuration and its layout. -/
structure PE (w : World) (p m k g cap : Nat) (s : St) (t d : Int) (hd : List Value) (rv ev : Value) : Prop where
  blk : Blk w p 43 (hd ++ [.pointer (some ⟨m, 0, none⟩), .pointer (some ⟨k, 0, none⟩), rv, ev]).toArray
  len : hd.length = 20
  mem : Mem w m g cap s
  clk : Clk w k t d

section
variable {w w' : World} {p m k g cap : Nat} {s s' : St} {t d : Int} {hd : List Value} {rv ev : Value}
theorem PE.at20 (h : PE w p m k g cap s t d hd rv ev) : w.cell? ⟨p, 20, none⟩ = some (.pointer (some ⟨m, 0, none⟩)) := by
  rw [h.blk.at_, List.getElem?_toArray, List.getElem?_append_right (by rw [h.len]; decide), h.len]; rfl
theorem PE.at21 (h : PE w p m k g cap s t d hd rv ev) : w.cell? ⟨p, 21, none⟩ = some (.pointer (some ⟨k, 0, none⟩)) := by
  rw [h.blk.at_, List.getElem?_toArray, List.getElem?_append_right (by rw [h.len]; decide), h.len]; rfl
theorem PE.at22 (h : PE w p m k g cap s t d hd rv ev) : w.cell? ⟨p, 22, none⟩ = some rv := by
  rw [h.blk.at_, List.getElem?_toArray, List.getElem?_append_right (by rw [h.len]; decide), h.len]; rfl
theorem PE.at23 (h : PE w p m k g cap s t d hd rv ev) : w.cell? ⟨p, 23, none⟩ = some ev := by
  rw [h.blk.at_, List.getElem?_toArray, List.getElem?_append_right (by rw [h.len]; decide), h.len]; rfl
theorem PE.hpm (h : PE w p m k g cap s t d hd rv ev) : p ≠ m := h.blk.apart h.mem.blk (by decide)
theorem PE.hpk (h : PE w p m k g cap s t d hd rv ev) : p ≠ k := h.blk.apart h.clk (by decide)
theorem PE.hpg (h : PE w p m k g cap s t d hd rv ev) : p ≠ g := by
  obtain ⟨cur, hb, _⟩ := h.mem.row.blk
  exact h.blk.apart hb (by decide)
theorem PE.hkm (h : PE w p m k g cap s t d hd rv ev) : k ≠ m := Blk.apart h.clk h.mem.blk (by decide)
theorem PE.hkg (h : PE w p m k g cap s t d hd rv ev) : k ≠ g := by
  obtain ⟨cur, hb, _⟩ := h.mem.row.blk
  exact Blk.apart h.clk hb (by decide)
theorem PE.acc (h : PE w p m k g cap s t d hd rv ev) (hm : Mem w' m g cap s') (hf : Fr [m, g] w w') : PE w' p m k g cap s' t d hd rv ev :=
  ⟨h.blk.of_same (hf.block p h.blk.lt (by simp [h.hpm, h.hpg])), h.len, hm, h.clk.fr hf (by simp [h.hkm, h.hkg])⟩
theorem PE.fr {S : List Nat} (h : PE w p m k g cap s t d hd rv ev) (hf : Fr S w w') (h1 : p ∉ S) (h2 : m ∉ S) (h3 : k ∉ S) (h4 : g ∉ S) : PE w' p m k g cap s t d hd rv ev :=
  ⟨h.blk.of_same (hf.block p h.blk.lt h1), h.len, h.mem.fr hf h2 h4, h.clk.fr hf h3⟩
theorem PE.below (h : PE w p m k g cap s t d hd rv ev) (hb : Below w.heap.size w w') : PE w' p m k g cap s t d hd rv ev :=
  h.fr (Fr.old (S := []) hb) (by simp) (by simp) (by simp) (by simp)
theorem PE.drewN (h : PE w p m k g cap s t d hd rv ev) (n : Nat) : PE (w.drewN n) p m k g cap s t d hd rv ev := ⟨h.blk, h.len, h.mem.drewN n, h.clk⟩
end

/-- The cells ahead of the pointers, in an environment that Bare makes. -/
abbrev hd0 : List Value := [.int .i64 0, .int .i64 0, .int .i64 0, .int .i64 0, .int .i64 0, .int .i64 0, .int .i64 0, .int .i64 0, .int .i64 0, .slice none 0 0, .slice none 0 0, .int .i64 0, .int .i64 0, .int .i64 0, .int .i64 0, .int .i64 0, .int .i64 0, .int .i64 0, .int .i64 0, .int .i64 0]

/-- What Bare gives: a new environment with a memory of n cells. -/
def PBared (w : World) (n : Nat) (e : Ending) (w' : World) : Prop :=
  ∃ p m k g : Nat, e = .returned (.pointer (some ⟨p, 0, none⟩)) ∧ PE w' p m k g n (St.new n) 0 0 hd0 (.slice none 0 0) (.slice none 0 0) ∧ Below w.heap.size w w' ∧ w.heap.size ≤ p ∧ w.heap.size ≤ m ∧ w.heap.size ≤ k ∧ w.heap.size ≤ g

theorem pbare_any (c : Int) (w : World) : Calls Tryz.prog 43 #[.int .i64 c] w (PBared w (sizeS c)) := by
  go_enter Tryz.func43, Tryz.ntmps43
  go_wp2_with fail
  refine (mnew_any c w).mono ?_
  rintro e w1 ⟨rfl, hm, hb⟩
  go_wp2_with fail
  refine (cnew_any w1).mono ?_
  rintro e w2 ⟨rfl, hk, hb2⟩
  have hs := hb.size
  have hs2 := hb2.size
  have hm2 := hm.fr (Fr.old (S := []) hb2) (by simp) (by simp)
  have hb3 : Below w.heap.size w w2 := hb.trans (hb2.mono hs)
  generalize hW : w.heap.size = N at *
  have hg := hm2.row.lt
  have hmm := hm2.blk.lt
  clear hm hb hb2
  go_wp2
  go_ret
  refine ⟨w2.heap.size, N + 1, w1.heap.size, N, rfl, ⟨Blk.made w2 _ _, rfl, hm2.alloc _, hk.below ((Below.refl _ _).alloc (Nat.le_refl _) _)⟩, hW ▸ (hb3.alloc (by omega) _), by omega, by omega, by omega, by omega⟩
end Go.Proofs.YtanbjdlaolgepaaGreat

namespace Go.Proofs.YtanbjdlaolgepaaGreat
open Go Go.RowKit

set_option maxRecDepth 100000 in
set_option maxHeartbeats 1000000 in
theorem wsame_any {w : World} {g g' n c c' : Nat} {X : List Int} (h : Row w g n c X) (h' : Row w g' n c' X) :
    Calls Tryz.prog 48 #[.slice (some ⟨g, 0, none⟩) n c, .slice (some ⟨g', 0, none⟩) n c'] w fun e w' => e = .returned (.bool true) ∧ ∃ d, w' = w.drewN d := by
  have hmax : n ≤ 9223372036854775807 := by have := h.le; have := h.max; unfold maxLen at this; omega
  have H := Lib.hid h
  have H' := Lib.hid h'
  clear h h'
  go_enter Tryz.func48, Tryz.ntmps48
  go_wp2_with fail
  go_loopw [5] (fun i wr => ∃ (j d : Nat), j ≤ n ∧ i = .int .i64 j ∧ wr = w.drewN d) (fun i _ => n - (intOf i).toNat)
  case atStart => exact ⟨0, 0, by omega, rfl, rfl⟩
  case round =>
    obtain ⟨j, d, hj, rfl, rfl⟩ := hrel
    by_cases hlt : j < n
    · have hx := H.out.cell hlt
      have hy := H'.out.cell hlt
      generalize X.getD j 0 = u at hx hy
      go_wp2_with fail
      go_quiet (fail)
      go_wp2_with fail
      go_roundw
      case rel => exact ⟨j + 1, _, by omega, by go_num, rfl⟩
      case measure => simp [intOf]; omega
    · obtain rfl : j = n := by omega
      go_wp2
      go_ret
      exact ⟨rfl, _, rfl⟩
end Go.Proofs.YtanbjdlaolgepaaGreat

namespace Go.Proofs.YtanbjdlaolgepaaGreat
open Go Go.ChangeShapes Go.WideShapes Go.ChangeAt Go.RowKit

/-- The slice (a, n) reads as the numbers zs (ints). -/
def InInts (w : World) (a : Option Addr) (n : Nat) (zs : List Int) : Prop :=
  zs.length = n ∧ n ≤ maxLen ∧ ∀ i, i < n → ∃ x : Addr, a = some x ∧ x.block < w.heap.size ∧ w.cell? (x.add i) = some (.int .i64 (zs.getD i 0))

theorem InInts.below {w w' : World} {a : Option Addr} {n : Nat} {zs : List Int} (h : InInts w a n zs) (hb : Below w.heap.size w w') : InInts w' a n zs :=
  ⟨h.1, h.2.1, fun i hi => by
    obtain ⟨x, e, hx, hc⟩ := h.2.2 i hi
    refine ⟨x, e, Nat.lt_of_lt_of_le hx hb.size, ?_⟩
    rw [hb.cell (by rw [show (x.add i).block = x.block by unfold Addr.add; split <;> rfl]; exact hx)]
    exact hc⟩

theorem InInts.cell {w : World} {x : Addr} {n i : Nat} {zs : List Int} (h : InInts w (some x) n zs) (hi : i < n) : w.cell? (x.add i) = some (.int .i64 (zs.getD i 0)) := by
  obtain ⟨y, e, _, hc⟩ := h.2.2 i hi
  cases e
  exact hc

set_option maxRecDepth 100000 in
theorem open_introw {H : Type} {enc : TypeId × Value → H} {w : World} {base b0 : Nat} {spare : Nat → Bool} {held : Bool} {r : Reach} {v : Value} {d : DataW H} {p : List MemPlace}
    (hv : Value.okWide Tryz.prog w r b0 23 v) (h : DataW.Trod enc Tryz.prog w base spare held 23 v d p) :
    ∃ (a : Option Addr) (n c : Nat) (zs : List Int), v = .slice a n c ∧ InInts w a n zs := by
  obtain ⟨a, n, c, rfl⟩ := okWide_slice Tryz.underlying23 hv
  obtain ⟨fuel, hf⟩ := h
  rcases open_ints Tryz.underlying23 Tryz.underlying3 (by kernel_rfl) hf with ⟨hcs, _⟩ | ⟨x, l, c', zs, hcs, _, hl, hm, hz, _, hcell, _⟩
  · simp [Value.cells] at hcs
    obtain ⟨rfl, rfl, rfl⟩ := hcs
    exact ⟨_, _, _, [], rfl, rfl, by simp, fun i hi => absurd hi (by omega)⟩
  · simp [Value.cells] at hcs
    obtain ⟨rfl, rfl, rfl⟩ := hcs
    have hnz : n ≤ zs.length := by rw [hz]; split <;> omega
    refine ⟨_, _, _, zs.take n, rfl, by simp; omega, by omega, fun i hi => ⟨x, rfl, ?_, ?_⟩⟩
    · have := World.block_lt_of_cell? w _ (hcell i (by omega))
      rwa [show (x.add i).block = x.block by unfold Addr.add; split <;> rfl] at this
    · rw [hcell i (by omega), List.getD_eq_getElem?_getD, List.getD_eq_getElem?_getD, List.getElem?_take, if_pos hi]
end Go.Proofs.YtanbjdlaolgepaaGreat

namespace Go.Proofs.YtanbjdlaolgepaaGreat
open Go Go.RowKit

theorem take_ne {zs ys : List Int} {j : Nat} (h : zs.getD j 0 ≠ ys.getD j 0) : zs ≠ ys := by
  intro e
  rw [e] at h
  exact h rfl
theorem take_more {zs ys : List Int} {j : Nat} (h1 : j < zs.length) (h2 : j < ys.length) (ht : zs.take j = ys.take j) (h : zs.getD j 0 = ys.getD j 0) : zs.take (j + 1) = ys.take (j + 1) := by
  rw [List.take_add_one, List.take_add_one, ht]
  rw [List.getD_eq_getElem?_getD, List.getD_eq_getElem?_getD, List.getElem?_eq_getElem h1, List.getElem?_eq_getElem h2] at h
  rw [List.getElem?_eq_getElem h1, List.getElem?_eq_getElem h2]
  simp only [Option.getD_some] at h
  rw [h]

/-- What Ints gives. -/
def IntsR (zs ys : List Int) (w : World) (e : Ending) (w' : World) : Prop := e = .returned (.bool (decide (zs = ys))) ∧ ∃ d, w' = w.drewN d

set_option maxRecDepth 100000 in
set_option maxHeartbeats 1000000 in
theorem rints_any {w : World} {a b : Option Addr} {n m : Nat} {zs ys : List Int} (h : InInts w a n zs) (h' : InInts w b m ys) (c c' : Nat) :
    Calls Tryz.prog 111 #[.slice a n c, .slice b m c'] w (IntsR zs ys w) := by
  have hmax := h.2.1
  unfold maxLen at hmax
  by_cases hnm : n = m
  · subst hnm
    have H := Lib.hid h
    have H' := Lib.hid h'
    have HL := Lib.hid (And.intro h.1 h'.1)
    clear h h'
    go_enter Tryz.func111, Tryz.ntmps111
    go_wp2_with fail
    go_loopw [5] (fun i wr => ∃ (j d : Nat), j ≤ n ∧ i = .int .i64 j ∧ wr = w.drewN d ∧ zs.take j = ys.take j) (fun i _ => n - (intOf i).toNat)
    case atStart => exact ⟨0, 0, by omega, rfl, rfl, by simp⟩
    case round =>
      obtain ⟨j, d, hj, rfl, rfl, ht⟩ := hrel
      have HT := Lib.hid ht
      clear ht
      by_cases hlt : j < n
      · obtain ⟨x, rfl, _, hx⟩ := H.out.2.2 j hlt
        obtain ⟨y, rfl, _, hy⟩ := H'.out.2.2 j hlt
        have HZ := Lib.hid (show zs.getD j 0 = zs.getD j 0 from rfl)
        obtain ⟨u, hu⟩ : ∃ u, zs.getD j 0 = u := ⟨_, rfl⟩
        obtain ⟨v, hv⟩ : ∃ v, ys.getD j 0 = v := ⟨_, rfl⟩
        rw [hu] at hx
        rw [hv] at hy
        have HU := Lib.hid hu
        have HV := Lib.hid hv
        clear hu hv HZ
        by_cases he : u = v
        · subst he
          go_wp2_with fail
          go_quiet (fail)
          go_wp2_with fail
          go_roundw
          case rel => exact ⟨j + 1, _, by omega, by go_num, rfl, take_more (by rw [HL.out.1]; exact hlt) (by rw [HL.out.2]; exact hlt) HT.out (HU.out.trans HV.out.symm)⟩
          case measure => simp [intOf]; omega
        · have he' : (u == v) = false := by simpa using he
          go_wp2_with fail
          go_quiet (fail)
          go_wp2
          go_ret
          exact ⟨congrArg (fun b => Ending.returned (Value.bool b)) (decide_eq_false (take_ne (by rw [HU.out, HV.out]; exact he))).symm, _, World.drewN_drewN _ _ _⟩
      · obtain rfl : j = n := by omega
        go_wp2
        go_ret
        have ht := HT.out
        rw [List.take_of_length_le (by rw [HL.out.1]; exact Nat.le_refl _), List.take_of_length_le (by rw [HL.out.2]; exact Nat.le_refl _)] at ht
        exact ⟨congrArg (fun b => Ending.returned (Value.bool b)) (decide_eq_true ht).symm, _, rfl⟩
  · have hd : ((n : Int) == (m : Int)) = false := by simp; omega
    have hne : zs ≠ ys := by
      intro e
      apply hnm
      rw [← h.1, ← h'.1, e]
    have HNE := Lib.hid hne
    clear h h' hne
    go_enter Tryz.func111, Tryz.ntmps111
    go_wp2
    go_ret
    exact ⟨congrArg (fun b => Ending.returned (Value.bool b)) (decide_eq_false HNE.out).symm, 0, rfl⟩
end Go.Proofs.YtanbjdlaolgepaaGreat
