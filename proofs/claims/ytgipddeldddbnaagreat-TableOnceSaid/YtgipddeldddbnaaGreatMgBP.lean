/-
  bits.Mul of 1 and a small number.
  The reference's environment: its cells. No function is named. (Written by wip/gen_env.py.)
  The reference's environment whole: its memory, events, records and configuration. No function is named.
  The reference's New of a memory. (Taken out of XMemCallsB and XMemCallsD.)
  The reference's New of an environment.
-/
import Derived.Test.YtgipddeldddbnaaGreatRows
import Derived.WalkKit
import Derived.WalkSpells
import Derived.WalkLawsBesides
import Derived.Laws.BitsAllLaws
import Derived.Lib.Hide
import Derived.Test.YtgipddeldddbnaaGreatMgAA
import Derived.Test.YtgipddeldddbnaaGreatCfBase
import Derived.Test.YtgipddeldddbnaaGreatMgAG
import Derived.Test.YtgipddeldddbnaaGreatMgAH
import Derived.Test.YtgipddeldddbnaaGreatMgAD
import Derived.Shelf.Abstract
import Derived.Outline
import Derived.Below
import Derived.Laws.StructEq
import Derived.Deep.OwnRows
import Derived.Maps.AppendAt
import Derived.OwnWalk
import Derived.IntWalk
import Derived.Test.YtgipddeldddbnaaGreatMgAJ
import Derived.Deep.RegionHeld3
import Derived.Deep.RegionLaw
import Derived.Deep.RegionWith
import Derived.RegionTactic
import Derived.BigRegion
import Derived.LoopTactic
import Derived.StillTailTactics
namespace Go.Proofs.YtgipddeldddbnaaGreat
open Go Go.RowKit

theorem mul64_one (t : Nat) (ht : t ≤ 1000) (w : World) : Calls Tryz.prog 34 #[.int .u64 1, .int .u64 (t : Int)] w fun e w' => e = .returned (.tuple #[.int .u64 0, .int .u64 (t : Int)]) ∧ w = w' := by
  have k1 : bits .and .u64 (t : Int) 4294967295 = (t : Int) := by
    rw [show (4294967295 : Int) = ((4294967295 : Nat) : Int) from rfl, Go.u64_and_nat t 4294967295 (by omega) (by omega)]
    have := Nat.and_two_pow_sub_one_eq_mod t 32
    rw [show (4294967295 : Nat) = 2 ^ 32 - 1 from rfl, this, Nat.mod_eq_of_lt (by omega)]
  have k2 : (t : Int) / 4294967296 = 0 := by omega
  have k0 : bits .and .u64 1 4294967295 = 1 := by decide
  have kz : bits .and .u64 0 4294967295 = 0 := by decide
  obtain ⟨T, hT⟩ : ∃ T : Int, (t : Int) = T := ⟨_, rfl⟩
  have h0 : 0 ≤ T := by omega
  have h1 : T ≤ 1000 := by omega
  rw [hT] at k1 k2 ⊢
  clear hT
  go_enter Tryz.func34, Tryz.ntmps34
  go_wp2
  go_ret2
  exact ⟨rfl, rfl⟩

theorem mul_one (t : Nat) (ht : t ≤ 1000) (w : World) : Calls Tryz.prog 28 #[.int .u64 1, .int .u64 (t : Int)] w fun e w' => e = .returned (.tuple #[.int .u64 0, .int .u64 (t : Int)]) ∧ w = w' := by
  have H := Lib.hid (mul64_one t ht w)
  go_enter Tryz.func28, Tryz.ntmps28
  go_wp2_with fail
  (with_reducible refine H.out.mono ?_)
  rintro e w' ⟨rfl, rfl⟩
  go_wp2
  go_ret2
  exact ⟨rfl, rfl⟩
end Go.Proofs.YtgipddeldddbnaaGreat

namespace Go.Proofs.YtgipddeldddbnaaGreat
open Go Go.RowKit
set_option linter.unusedSimpArgs false

/-- What an environment holds besides its memory's state: the configuration and where its lists lie, the memory's row, the records, the events. -/
structure EnvA where
  c : Cfg
  pa : Option Addr
  pn : Nat
  pc : Nat
  sa : Option Addr
  sn : Nat
  sc : Nat
  g : Nat
  cap : Nat
  now : Int
  draw : Int
  rv : Value
  ev : Value
/-- Its cells. -/
abbrev ecells (a : EnvA) (s : St) : Array Value :=
  #[.int .i64 a.c.wo, .int .i64 a.c.le, .int .i64 a.c.cl, .int .i64 a.c.ta, .int .i64 a.c.de, .int .i64 a.c.he, .int .i64 a.c.ba, .int .i64 a.c.ag, .int .i64 a.c.pa, .slice a.pa a.pn a.pc, .slice a.sa a.sn a.sc,
    .slice (some ⟨a.g, 0, none⟩) s.X.length a.cap, .int .i64 s.k, .int .i64 s.i, .int .u64 s.o, .int .u64 s.v, .int .i64 s.c, .int .i64 a.now, .int .i64 a.draw, a.rv, a.ev]
end Go.Proofs.YtgipddeldddbnaaGreat

namespace Go.Proofs.YtgipddeldddbnaaGreat
open Go Go.RowKit
set_option linter.unusedSimpArgs false

/-- Which blocks of an environment change. -/
def EnvA.S (a : EnvA) (p : Nat) : List Nat := p :: a.g :: (a.ev.ownBlock.toList ++ a.rv.ownBlock.toList)

section
variable {B : Nat} {w w' : World} {p : Nat} {a : EnvA} {s s' : St} {es : List Ev} {rs : List Rec}
end
end Go.Proofs.YtgipddeldddbnaaGreat

namespace Go.Proofs.YtgipddeldddbnaaGreat
open Go Go.RowKit Go.Shelf
set_option maxRecDepth 100000

/-- What the reference's New gives: a memory by value. -/
def RNew (w : World) (n : Nat) (e : Ending) (w' : World) : Prop :=
  e = .returned (.agg #[.slice (some ⟨w.heap.size + 1, 0, none⟩) n n, .int .i64 0, .int .i64 0, .int .u64 0, .int .u64 0, .int .i64 0]) ∧ Row w' (w.heap.size + 1) n n (List.replicate n 0) ∧ Below w.heap.size w w'

theorem rnew_end (w : World) (n : Nat) (hn : n ≤ 131072) (o : Obj) :
    RNew w n (.returned (.agg #[.slice (some ⟨w.heap.size + 1, 0, none⟩) n n, .int .i64 0, .int .i64 0, .int .u64 0, .int .u64 0, .int .i64 0])) ((w.alloc o).alloc (.cells (madeCells #[.int .u64 0] n) 103)) := by
  refine ⟨rfl, ?_, ((Below.refl _ _).alloc (Nat.le_refl _) _).alloc (by simp) _⟩
  have := made_row (w.alloc o) n hn
  simpa using this

end Go.Proofs.YtgipddeldddbnaaGreat

namespace Go.Proofs.YtgipddeldddbnaaGreat
open Go Go.RowKit
set_option linter.unusedSimpArgs false

theorem info_rec : (Tryz.prog.info? 51).map (fun i => (i.zero, i.size, i.bytes)) = some (some (.agg #[.int .i64 0, .int .i64 0, .int .i64 0, .int .i64 0, .int .i64 0, .slice none 0 0, .bool false]), 7, 72) := by kernel_rfl

/-- A new record. -/
abbrev freshR (a b : Int) : Rec := ⟨a, b, 0, 0, -1, [], false⟩
abbrev freshV (a b : Int) : Array Value := #[.int .i64 a, .int .i64 b, .int .i64 0, .int .i64 0, .int .i64 (-1), .slice none 0 0, .bool false]

theorem cellsR_append : ∀ (l : List Rec) (ks : List Value) (r : Rec) (k : Value), ks.length = l.length → cellsR (l ++ [r]) (ks ++ [k]) = cellsR l ks ++ rcl r k
  | [], [], _, _, _ => rfl
  | [], _ :: _, _, _, h => by simp at h
  | _ :: _, [], _, _, h => by simp at h
  | e :: l, x :: ks, r, k, h => by
    have := cellsR_append l ks r k (by simpa using h)
    simp only [List.cons_append, cellsR, List.headD_cons, List.tail_cons, this]

/-- The cells of a record that has no children. -/
def NewCells (w : World) (ad : Addr) (r : Rec) : Prop := ∀ j u, (rcl r (.slice none 0 0))[j]? = some u → w.cell? (ad.add j) = some u
theorem newCells (w : World) (a b : Int) : NewCells (w.alloc (.cells (freshV a b) 51)) ⟨w.heap.size, 0, none⟩ (freshR a b) := by
  intro j u hu
  have e : (⟨w.heap.size, 0, none⟩ : Addr).add j = ⟨w.heap.size, j, none⟩ := by unfold Addr.add; split <;> simp_all
  rw [e, (Blk.made w 51 (freshV a b)).at_, List.getElem?_toArray]
  exact hu

/-- An append of one record without children. -/
theorem step_appR {w : World} {ops : Array Oper} {o : Oper} {a : Act} {K : Act → World → Prop} {Q : Exit → Act → World → Prop} {E : Prop} (hgd : o.guard = none) (s x : Operand)
    (ho : o.op = .call { callee := .builtin .append, args := #[s, x], argTypes := #[37, 37] })
    {base : Nat} {v : Value} {l : List Rec} (hs : a.eval s = v) (hown : OwnR w base v l) {ad : Addr} {c : Nat} {r : Rec} (hr : r.ks = []) (hx : a.eval x = .slice (some ad) 1 c) (h5 : NewCells w ad r) (hn : l.length + 1 ≤ 1000000) (hb : base ≤ w.heap.size)
    (h : ∀ v' w', OwnR w' base v' (l ++ [r]) → w.grownBy w' v.ownBlock → K (a.put o.dst v') w') :
    if Region.wanted o (yielded ops a.tmps) = true then Oper.wp Tryz.prog o a w K Q else E := by
  obtain ⟨i0, hi, hz0, hz1, hz2⟩ := info_parts info_rec
  have hw : Region.wanted o (yielded ops a.tmps) = true := by simp [Region.wanted, hgd]
  rw [if_pos hw]
  obtain ⟨ks, h1, h2, h3⟩ := hown
  refine wp_append_own w s x 37 ho base 51 i0 _ 7 72 Tryz.underlying37 hi hz0 hz1 hz2 rfl (by omega) v l.length (cellsR l ks) hs h2 ad 1 c (rcl r (.slice none 0 0)) hx rfl h5 (by
    intro u hu
    simp only [List.mem_cons, List.not_mem_nil, or_false] at hu
    rcases hu with rfl | rfl | rfl | rfl | rfl | rfl | rfl <;> rfl) (by unfold maxLen; omega) (by omega) hb ?_
  intro v' w' g1 g2 _
  refine h v' w' ⟨ks ++ [.slice none 0 0], by simp [h1], ?_, fun i hi => ?_⟩ g2
  · rw [cellsR_append l ks r _ h1, List.length_append]
    exact g1
  · by_cases hil : i < l.length
    · have e1 : (ks ++ [Value.slice none 0 0]).getD i (.slice none 0 0) = ks.getD i (.slice none 0 0) := by
        rw [List.getD_eq_getElem?_getD, List.getD_eq_getElem?_getD, List.getElem?_append_left (by omega)]
      have e2 : ((l ++ [r]).map Rec.ks).getD i [] = (l.map Rec.ks).getD i [] := by
        rw [List.map_append, List.getD_eq_getElem?_getD, List.getD_eq_getElem?_getD, List.getElem?_append_left (by simpa using hil)]
      rw [e1, e2]
      have hk := h3 i hil
      refine row_same hk (fun k hk' => ?_)
      rcases hk.2 with ⟨e, _⟩ | ⟨g, cap, cur, e, _, hg, _⟩
      · rw [e] at hk'
        cases hk'
      · rw [e] at hk'
        simp only [Value.ownBlock, Option.some.injEq] at hk'
        subst hk'
        exact g2.block g (Array.getElem?_eq_some_iff.1 hg).1 (fun e => row_apart h2 hg (by decide) g e.symm rfl)
    · have hie : i = l.length := by
        simp at hi
        omega
      subst hie
      have e1 : (ks ++ [Value.slice none 0 0]).getD l.length (.slice none 0 0) = .slice none 0 0 := by
        rw [List.getD_eq_getElem?_getD, List.getElem?_append_right (by omega), h1, Nat.sub_self]
        rfl
      have e2 : ((l ++ [r]).map Rec.ks).getD l.length [] = [] := by
        rw [List.map_append, List.getD_eq_getElem?_getD, List.getElem?_append_right (by simp), List.length_map, Nat.sub_self]
        simp [hr]
      rw [e1, e2]
      exact OwnI.nil _ _

theorem elevenAnd {w : World} {g : Nat} {c : Cfg} {pa sa : Option Addr} {pn pc sn sc : Nat} (h : Blk w g 30 (cc c pa pn pc sa sn sc)) : w.cell? ⟨g, 0, none⟩ = some (.int .i64 c.wo) ∧ w.cell? ⟨g, 1, none⟩ = some (.int .i64 c.le) ∧ w.cell? ⟨g, 2, none⟩ = some (.int .i64 c.cl) ∧ w.cell? ⟨g, 3, none⟩ = some (.int .i64 c.ta) ∧ w.cell? ⟨g, 4, none⟩ = some (.int .i64 c.de) ∧ w.cell? ⟨g, 5, none⟩ = some (.int .i64 c.he) ∧ w.cell? ⟨g, 6, none⟩ = some (.int .i64 c.ba) ∧ w.cell? ⟨g, 7, none⟩ = some (.int .i64 c.ag) ∧ w.cell? ⟨g, 8, none⟩ = some (.int .i64 c.pa) ∧ w.cell? ⟨g, 9, none⟩ = some (.slice pa pn pc) ∧ w.cell? ⟨g, 10, none⟩ = some (.slice sa sn sc) :=
  ⟨h.at_ 0, h.at_ 1, h.at_ 2, h.at_ 3, h.at_ 4, h.at_ 5, h.at_ 6, h.at_ 7, h.at_ 8, h.at_ 9, h.at_ 10⟩

/-- What New's environment holds besides its memory. -/
abbrev newA (c : Cfg) (pa : Option Addr) (pn pc : Nat) (sa : Option Addr) (sn sc g n : Nat) (rv : Value) : EnvA := ⟨c, pa, pn, pc, sa, sn, sc, g, n, 0, 0, rv, .slice none 0 0⟩
/-- The records of a new environment. -/
abbrev newRs (n : Nat) : List Rec := List.replicate n (freshR 0 (-1))
end Go.Proofs.YtgipddeldddbnaaGreat
