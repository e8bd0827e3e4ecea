/-
  An environment of the program beside one of the reference: their blocks are written anew (time, draw, records); less lies below them.
  Slices of uint64 that a call reads. No function is named.
  Package memory: Store.
  workstealmatch.Bare: two equal environments with the given words.
  Peek of the reference's environment.
  A drawn number, and the contract of the reference's Draw.
-/
import Derived.Test.YtanbjdlaolgepaaGreatDuo
import Derived.Test.YtanbjdlaolgepaaGreatMgAK
import Derived.Test.YtanbjdlaolgepaaGreatMgAA
import Derived.Test.YtanbjdlaolgepaaGreatMgAN
import Derived.Test.YtanbjdlaolgepaaGreatMgAI
import Derived.Test.YtanbjdlaolgepaaGreatMgAF
import Derived.Test.YtanbjdlaolgepaaGreatMgAC
import Derived.Test.YtanbjdlaolgepaaGreatMgAG
import Derived.LoopTactic
import Derived.OwnWalk
import Derived.Test.YtanbjdlaolgepaaGreatRows
import Derived.WalkKit
import Derived.WalkSpells
import Derived.WalkLawsBesides
namespace Go.Proofs.YtanbjdlaolgepaaGreat
open Go Go.RowKit Go.Shelf
set_option linter.unusedSimpArgs false
set_option linter.unusedVariables false

section
variable {w w' : World} {B p m k g cap : Nat} {hd : List Value} {rv rv' ev : Value} {q : Nat} {a a' : EnvA} {s s2 : St} {t d : Int} {es es2 : List Ev} {rs rs' rs2 rs2' : List Rec}
/-- The reference's block is written anew. -/
theorem Duo.rset (h : Duo w B p m k g cap hd rv ev q a s s2 t d es es2 rs rs2) (hf : Fr [q] w w') (hb : Blk w' q 53 (ecells a' s2)) (e1 : a'.g = a.g) (e2 : a'.cap = a.cap) (e3 : a'.ev = a.ev) (e4 : a'.c = a.c ∧ a'.pa = a.pa ∧ a'.pn = a.pn ∧ a'.sa = a.sa ∧ a'.sn = a.sn)
    (hr : OwnR w' B a'.rv rs2') (hrr : ∀ x, rv.ownBlock = some x → a'.rv.ownBlock ≠ some x) : Duo w' B p m k g cap hd rv ev q a' s s2 t d es es2 rs rs2' := by
  obtain ⟨cur, hg, _⟩ := h.e.mem.row.blk
  obtain ⟨cur2, hg2, _⟩ := h.f.m.row.blk
  obtain ⟨W0, y0, y1, y2⟩ := h.f.cf
  have hsz := y2.size
  have hty : ∀ (cs : Array Value) (tj : TypeId), w.heap[q]? = some (Obj.cells cs tj (0, 0)) → 53 = tj := fun cs tj hk => ty_at h.f.m.blk hk
  have hne : ∀ (j : Nat) (cs : Array Value) (tj : TypeId), w.heap[j]? = some (Obj.cells cs tj (0, 0)) → tj ≠ 53 → w'.heap[j]? = w.heap[j]? := by
    intro j cs tj hk hn
    refine hf.block j (Array.getElem?_eq_some_iff.1 hk).1 (fun hm => ?_)
    simp only [List.mem_cons, List.not_mem_nil, or_false] at hm
    subst hm
    exact hn (hty _ _ hk).symm
  refine ⟨h.e.fr hf (by simpa using h.e.blk.apart h.f.m.blk (by decide)) (by simpa using h.e.mem.blk.apart h.f.m.blk (by decide)) (by simpa using Blk.apart h.e.clk h.f.m.blk (by decide)) (by simpa using hg.apart h.f.m.blk (by decide)),
    h.v.same (fun j cs hk => hne j cs _ hk (by decide)), h.r.same (fun j cs tj hk hte => hne j cs tj hk (by rcases hte with rfl | rfl <;> decide)), ⟨⟨hb, ?_, h.f.m.small⟩, ?_, hr, ⟨W0, y0, ?_, y2.trans (hf.below (by omega) (fun j hj => ?_))⟩, h.f.hp, by rw [e1]; exact h.f.hg⟩, by rw [e1]; exact h.gg, by rw [e3]; exact h.vv, hrr, h.bp, h.bm, h.bk, h.bg⟩
  · rw [e1, e2]
    exact h.f.m.row.of_same (hne a.g _ _ hg2 (by decide))
  · rw [e3]
    exact h.f.ev.same (fun j cs hk => hne j cs _ hk (by decide))
  · obtain ⟨c1, c2, c3, c4, c5⟩ := e4
    rw [c1, c2, c3, c4, c5]
    exact y1
  · simp at hj
    subst hj
    exact h.f.hp
/-- The program's block is written anew: its records. -/
theorem Duo.pset (h : Duo w B p m k g cap hd rv ev q a s s2 t d es es2 rs rs2) (hf : Fr [p] w w') (hb : Blk w' p 43 (hd ++ [.pointer (some ⟨m, 0, none⟩), .pointer (some ⟨k, 0, none⟩), rv', ev]).toArray) (hr : OwnR w' B rv' rs') (hrr : ∀ x, rv'.ownBlock = some x → a.rv.ownBlock ≠ some x) :
    Duo w' B p m k g cap hd rv' ev q a s s2 t d es es2 rs' rs2 := by
  obtain ⟨cur, hg, _⟩ := h.e.mem.row.blk
  obtain ⟨cur2, hg2, _⟩ := h.f.m.row.blk
  have hty : ∀ (cs : Array Value) (tj : TypeId), w.heap[p]? = some (Obj.cells cs tj (0, 0)) → 43 = tj := fun cs tj hk => ty_at h.e.blk hk
  have hS : ∀ (j : Nat) (cs : Array Value) (tj : TypeId), j ∈ [p] → w.heap[j]? = some (Obj.cells cs tj (0, 0)) → 43 = tj := by
    intro j cs tj hj hk
    simp at hj
    subst hj
    exact hty _ _ hk
  refine ⟨⟨hb, h.e.len, h.e.mem.fr hf (by simpa using h.e.hpm.symm) (by simpa using h.e.hpg.symm), h.e.clk.fr hf (by simpa using h.e.hpk.symm)⟩, h.v.same (fun j cs hk => hf.block j (Array.getElem?_eq_some_iff.1 hk).1 (fun hm => absurd (hS j cs _ hm hk) (by decide))), hr,
    h.f.frS hf (fun hm => absurd (hS q _ _ hm h.f.m.blk) (by decide)) (fun hm => absurd (hS a.g _ _ hm hg2) (by decide)) (fun j cs tj hm hk => ?_) (fun j hj => ?_), h.gg, h.vv, hrr, h.bp, h.bm, h.bk, h.bg⟩
  · rw [← hS j cs tj hm hk]
    exact ⟨by decide, by decide, by decide⟩
  · simp at hj
    subst hj
    exact h.bp
/-- Less lies below. -/
theorem Duo.low (h : Duo w B p m k g cap hd rv ev q a s s2 t d es es2 rs rs2) {B0 : Nat} (hB : B0 ≤ B) {W0 : World} (h0 : W0.heap.size = B0) (hl : Lists W0 0 a.c a.pa a.pn a.sa a.sn) (hw : Below B0 W0 w) : Duo w B0 p m k g cap hd rv ev q a s s2 t d es es2 rs rs2 :=
  ⟨h.e, row_low h.v hB, h.r.low hB, h.f.low hB h0 hl hw, h.gg, h.vv, h.rr, Nat.le_trans hB h.bp, Nat.le_trans hB h.bm, Nat.le_trans hB h.bk, Nat.le_trans hB h.bg⟩
/-- The program's clock is written. -/
theorem Duo.clk (h : Duo w B p m k g cap hd rv ev q a s s2 t d es es2 rs rs2) {t' d' : Int} (hc : Clk w' k t' d') (hf : Fr [k] w w') : Duo w' B p m k g cap hd rv ev q a s s2 t' d' es es2 rs rs2 := by
  obtain ⟨cur, hg, _⟩ := h.e.mem.row.blk
  obtain ⟨cur2, hg2, _⟩ := h.f.m.row.blk
  have hty : ∀ (cs : Array Value) (tj : TypeId), w.heap[k]? = some (Obj.cells cs tj (0, 0)) → 130 = tj := fun cs tj hk => ty_at h.e.clk hk
  have n1 : p ≠ k := h.e.hpk
  have n2 : m ≠ k := h.e.hkm.symm
  have n4 : g ≠ k := h.e.hkg.symm
  refine ⟨⟨h.e.blk.of_same (hf.block p h.e.blk.lt (by simpa using n1)), h.e.len, h.e.mem.fr hf (by simpa using n2) (by simpa using n4), hc⟩, h.v.same (fun j cs hk => hf.block j (Array.getElem?_eq_some_iff.1 hk).1 (fun hm => ?_)), h.r.same (fun j cs tj hk hte => hf.block j (Array.getElem?_eq_some_iff.1 hk).1 (fun hm => ?_)), ?_, h.gg, h.vv, h.rr, h.bp, h.bm, h.bk, h.bg⟩
  · simp only [List.mem_cons, List.not_mem_nil, or_false] at hm
    subst hm
    exact absurd (hty _ _ hk) (by decide)
  · simp only [List.mem_cons, List.not_mem_nil, or_false] at hm
    subst hm
    rcases hte with rfl | rfl
    · exact absurd (hty _ _ hk) (by decide)
    · exact absurd (hty _ _ hk) (by decide)
  · exact h.f.other h.e.clk h.bk (by decide) (by decide) (by decide) (by decide) (by decide) hf
/-- The reference's draw is set. -/
theorem Duo.rdraw (h : Duo w B p m k g cap hd rv ev q a s s2 t d es es2 rs rs2) (n : Int) : Duo (w.setCell ⟨q, 18, none⟩ (.int .i64 n)) B p m k g cap hd rv ev q { a with draw := n } s s2 t d es es2 rs rs2 := by
  have hf : Fr [q] w (w.setCell ⟨q, 18, none⟩ (.int .i64 n)) := (Fr.refl _ _).setCell (by simp) _
  obtain ⟨cur, hg, _⟩ := h.e.mem.row.blk
  obtain ⟨cur2, hg2, _⟩ := h.f.m.row.blk
  obtain ⟨W0, e0, e1, e2⟩ := h.f.cf
  have hsz := e2.size
  have hty : ∀ (cs : Array Value) (tj : TypeId), w.heap[q]? = some (Obj.cells cs tj (0, 0)) → 53 = tj := fun cs tj hk => ty_at h.f.m.blk hk
  have hne : ∀ (j : Nat) (cs : Array Value) (tj : TypeId), w.heap[j]? = some (Obj.cells cs tj (0, 0)) → tj ≠ 53 → (w.setCell ⟨q, 18, none⟩ (.int .i64 n)).heap[j]? = w.heap[j]? := by
    intro j cs tj hk hn
    refine hf.block j (Array.getElem?_eq_some_iff.1 hk).1 (fun hm => ?_)
    simp only [List.mem_cons, List.not_mem_nil, or_false] at hm
    subst hm
    exact hn (hty _ _ hk).symm
  refine ⟨h.e.fr hf (by simpa using h.e.blk.apart h.f.m.blk (by decide)) (by simpa using h.e.mem.blk.apart h.f.m.blk (by decide)) (by simpa using Blk.apart h.e.clk h.f.m.blk (by decide)) (by simpa using hg.apart h.f.m.blk (by decide)),
    h.v.same (fun j cs hk => hne j cs _ hk (by decide)), h.r.same (fun j cs tj hk hte => hne j cs tj hk (by rcases hte with rfl | rfl <;> decide)), ⟨⟨h.f.m.blk.put 18 _, h.f.m.row.of_same (hne a.g _ _ hg2 (by decide)), h.f.m.small⟩, h.f.ev.same (fun j cs hk => hne j cs _ hk (by decide)), h.f.rc.same (fun j cs tj hk hte => hne j cs tj hk (by rcases hte with rfl | rfl <;> decide)), ⟨W0, e0, e1, e2.trans (hf.below (by omega) (fun j hj => ?_))⟩, h.f.hp, h.f.hg⟩, h.gg, h.vv, h.rr, h.bp, h.bm, h.bk, h.bg⟩
  simp at hj
  subst hj
  exact h.f.hp
end
end Go.Proofs.YtanbjdlaolgepaaGreat

namespace Go.Proofs.YtanbjdlaolgepaaGreat
open Go Go.RowKit

/-- The slice (a, n) reads as the words X. -/
def InW (w : World) (a : Option Addr) (n : Nat) (X : List Int) : Prop :=
  X.length = n ∧ n ≤ maxLen ∧ ∀ i, i < n → ∃ x : Addr, a = some x ∧ x.block < w.heap.size ∧ w.cell? (x.add i) = some (.int .u64 (X.getD i 0))
theorem InW.below {w w' : World} {a : Option Addr} {n : Nat} {X : List Int} (h : InW w a n X) (hb : Below w.heap.size w w') : InW w' a n X :=
  ⟨h.1, h.2.1, fun i hi => by
    obtain ⟨x, e, hx, hc⟩ := h.2.2 i hi
    exact ⟨x, e, Nat.lt_of_lt_of_le hx hb.size, (hb.cell (by rw [block_add]; exact hx)).trans hc⟩⟩
end Go.Proofs.YtanbjdlaolgepaaGreat

namespace Go.Proofs.YtanbjdlaolgepaaGreat
open Go Go.RowKit Go.Shelf

theorem store_fn (x v : Int) (a : Addr) (w : World) (h : w.cell? a = some (.int .u64 v)) : Calls Tryz.prog 30 #[.int .u64 x, .pointer (some a)] w fun e w' => e = .returned (.int .u64 v) ∧ w = w' := by
  go_enter Tryz.func30, Tryz.ntmps30
  go_wp2
  go_ret
  exact ⟨rfl, rfl⟩

theorem store_any {w : World} {p g cap : Nat} {s : St} (h : Mem w p g cap s) (i v : Int) :
    Calls Tryz.prog 9 #[.pointer (some ⟨p, 0, none⟩), .int .i64 i, .int .u64 v] w fun e w' => e = .returned (.tuple #[]) ∧ Mem w' p g cap (s.go 2 i fun _ => v) ∧ Fr [p, g] w w' := by
  have hc : (w.alloc (.cells #[.int .u64 v] 46)).cell? ⟨w.heap.size, 0, none⟩ = some (.int .u64 v) := (Blk.made w 46 #[.int .u64 v]).at_ 0
  have H := access_any (h.alloc (.cells #[.int .u64 v] 46)) 2 i 30 #[.pointer (some ⟨w.heap.size, 0, none⟩)] _ (enters_of Tryz.func30 (by kernel_rfl) rfl) (fun x => store_fn x v _ _ hc)
  generalize s.old i = x at *
  generalize decide (s.has i) = b at *
  go_enter Tryz.func9, Tryz.ntmps9
  go_wp2_with fail
  refine H.mono ?_
  rintro e w' ⟨rfl, hm, hfr⟩
  go_wp2
  go_end0
  exact ⟨rfl, hm, ((Fr.refl _ _).alloc _).trans hfr⟩
end Go.Proofs.YtanbjdlaolgepaaGreat

namespace Go.Proofs.YtanbjdlaolgepaaGreat
open Go Go.RowKit Go.Shelf
set_option linter.unusedSimpArgs false

abbrev nilV : Value := .slice none 0 0
theorem bare_fill (X : List Int) (n j : Nat) (hl : X.length = n) (hj : j < n) : (X.take j ++ List.replicate (n - j) 0).set j (X.getD j 0) = X.take (j + 1) ++ List.replicate (n - (j + 1)) 0 := by
  rw [List.set_append_right _ _ (by simp; omega), List.length_take, Nat.min_eq_left (by omega), Nat.sub_self, show n - j = (n - (j + 1)) + 1 by omega, List.replicate_succ, List.set_cons_zero, List.take_add_one, List.append_assoc]
  rw [List.getD_eq_getElem?_getD, List.getElem?_eq_getElem (by omega)]
  rfl

end Go.Proofs.YtanbjdlaolgepaaGreat

namespace Go.Proofs.YtanbjdlaolgepaaGreat
open Go Go.RowKit
set_option linter.unusedSimpArgs false

/-- A cell's contents, without an access. -/
theorem epeek_any {w : World} {p : Nat} {a : EnvA} {s : St} (h : EnvM w p a s) (i : Int) :
    Calls Tryz.prog 47 #[.pointer (some ⟨p, 11, none⟩), .int .i64 i] w fun e w' => e = .returned (.int .u64 (s.old i)) ∧ w = w' := by
  have h0 : w.cell? ⟨p, 11, none⟩ = some (.slice (some ⟨a.g, 0, none⟩) s.X.length a.cap) := h.blk.at_ 11
  have hs := h.small
  by_cases hi : s.has i
  · obtain ⟨j, rfl⟩ : ∃ j : Nat, i = (j : Int) := ⟨i.toNat, by have := hi.1; omega⟩
    have hj : j < s.X.length := by have := hi.2; omega
    have hc := h.row.cell hj
    simp only [St.old, if_pos hi, Int.toNat_natCast]
    generalize s.X.getD j 0 = x at *
    have H := ein_yes h hj
    go_enter Tryz.func47, Tryz.ntmps47
    go_wp2_with fail
    refine H.mono ?_
    rintro e w' ⟨rfl, rfl⟩
    go_wp2
    go_ret
    exact ⟨rfl, rfl⟩
  · have H := Lib.hid (ein_no h (St.has_no hi))
    simp only [St.old, if_neg hi]
    go_enter Tryz.func47, Tryz.ntmps47
    go_wp2_with fail
    refine H.out.mono ?_
    rintro e w' ⟨rfl, rfl⟩
    go_wp2
    go_ret
    exact ⟨rfl, rfl⟩
end Go.Proofs.YtanbjdlaolgepaaGreat

namespace Go.Proofs.YtanbjdlaolgepaaGreat
open Go Go.RowKit

/-- The number from 0 to n - 1 that differs from d by a multiple of n; 0 if n is less than 1. -/
def drw (d n : Int) : Int := if n < 1 then 0 else if d.tmod n < 0 then d.tmod n + n else d.tmod n
theorem drw_low (d n : Int) (h : n < 1) : drw d n = 0 := if_pos h
theorem drw_neg (d n : Int) (h : ¬ n < 1) (h' : d.tmod n < 0) : drw d n = d.tmod n + n := by rw [drw, if_neg h, if_pos h']
theorem drw_pos (d n : Int) (h : ¬ n < 1) (h' : ¬ d.tmod n < 0) : drw d n = d.tmod n := by rw [drw, if_neg h, if_neg h']
theorem tmod_in (d n : Int) (h : ¬ n < 1) : -n < d.tmod n ∧ d.tmod n < n := by
  have h1 := Int.tmod_lt_of_pos d (show 0 < n by omega)
  have h2 := Int.lt_tmod_of_pos d (show 0 < n by omega)
  omega
theorem drw_in (d n : Int) (h : 1 ≤ n) : 0 ≤ drw d n ∧ drw d n < n := by
  have hr := tmod_in d n (by omega)
  unfold drw
  rw [if_neg (by omega)]
  split <;> omega
theorem rdraw_any (d n : Int) (hn : n ≤ 9223372036854775807) (w : World) :
    Calls Tryz.prog 17 #[.int .i64 d, .int .i64 n] w fun e w' => e = .returned (.int .i64 (drw d n)) ∧ w = w' := by
  by_cases h : n < 1
  · rw [drw_low d n h]
    clear hn
    go_enter Tryz.func17, Tryz.ntmps17
    go_wp2
    go_ret
    exact ⟨rfl, rfl⟩
  · have hr := tmod_in d n h
    by_cases h' : d.tmod n < 0
    · rw [drw_neg d n h h']
      generalize hg : d.tmod n = r at *
      go_enter Tryz.func17, Tryz.ntmps17
      go_wp2
      go_ret
      exact ⟨rfl, rfl⟩
    · rw [drw_pos d n h h']
      generalize hg : d.tmod n = r at *
      have h'' : 0 ≤ r := by omega
      go_enter Tryz.func17, Tryz.ntmps17
      go_wp2
      go_ret
      exact ⟨rfl, rfl⟩
end Go.Proofs.YtanbjdlaolgepaaGreat
