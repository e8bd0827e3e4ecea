/-
  The reference's layout: index, and what goes through it.
  Package layout: the contracts of its methods. (Written by wip/gen_lya.py.)
  A block that begins with parts.Lines: the methods that it embeds. (Written by wip/gen_bm.py.)
  Package levels: the deque and the bitmap of a machine, by the layout of the environment.
  Package clock: Tick.
  Package clock: Set.
  workstealmatch.Envs: what its later loops keep.
-/
import Derived.Test.YtanbjdlaolgepaaGreatMgAI
import Derived.Test.YtanbjdlaolgepaaGreatMgAA
import Derived.Deep.CutRange
import Derived.Test.YtanbjdlaolgepaaGreatMgAY
import Derived.Test.YtanbjdlaolgepaaGreatMgAO
import Derived.Test.YtanbjdlaolgepaaGreatMgAC
import Derived.Deep.QuietTactic
import Derived.BigQuiet
import Derived.RegionTactic
import Derived.Test.YtanbjdlaolgepaaGreatMgAU
import Derived.Test.YtanbjdlaolgepaaGreatSeq
import Derived.Deep.RegionHeld
import Derived.Deep.RegionHeld3
import Derived.Test.YtanbjdlaolgepaaGreatMgAT
import Derived.Test.YtanbjdlaolgepaaGreatNew8
import Derived.Test.YtanbjdlaolgepaaGreatMgAG
namespace Go.Proofs.YtanbjdlaolgepaaGreat
open Go Go.RowKit

theorem index_any {w : World} (first i n size : Int) (h0 : 0 ≤ first) (h1 : first ≤ 1000000) (hn : n ≤ 1000) (hs : size = 1 ∨ size = 5) :
    Calls Tryz.prog 31 #[.int .i64 first, .int .i64 i, .int .i64 n, .int .i64 size] w fun e w' => e = .returned (.int .i64 (ixs first i n size)) ∧ w = w' := by
  unfold ixs
  by_cases hi : i < 0
  · rw [if_pos (Or.inl hi)]
    go_enter Tryz.func31, Tryz.ntmps31
    go_wp2
    go_ret
    exact ⟨rfl, rfl⟩
  · by_cases hni : n ≤ i
    · rw [if_pos (Or.inr hni)]
      go_enter Tryz.func31, Tryz.ntmps31
      go_wp2
      go_ret
      exact ⟨rfl, rfl⟩
    · rw [if_neg (by omega)]
      rcases hs with rfl | rfl
      · go_enter Tryz.func31, Tryz.ntmps31
        go_wp2
        go_ret
        exact ⟨rfl, rfl⟩
      · go_enter Tryz.func31, Tryz.ntmps31
        go_wp2
        go_ret
        exact ⟨rfl, rfl⟩
section
variable {w : World} {c : Cfg} {pa sa : Option Addr} {pn pc sn sc : Nat}
theorem slot_any (h : CfgIn c) (i : Int) : Calls Tryz.prog 10 #[cv c pa pn pc sa sn sc, .int .i64 i] w (GivesI (rSlot c i) w) := by
  have hh := h.he
  have B1 := Lib.hid (below_one w (cbox c pa pn pc sa sn sc))
  go_enter Tryz.func10, Tryz.ntmps10
  go_wp2_with fail
  (with_reducible refine (index_any _ _ _ _ (by omega) (by omega) (by omega) (Or.inl rfl)).mono ?_)
  rintro e w1 ⟨rfl, rfl⟩
  go_wp2
  go_ret
  exact ⟨rfl, B1.out⟩
end
end Go.Proofs.YtanbjdlaolgepaaGreat

namespace Go.Proofs.YtanbjdlaolgepaaGreat
open Go Go.RowKit

theorem below_any (i n : Int) (w : World) : Calls Tryz.prog 192 #[.int .i64 i, .int .i64 n] w fun e w' => e = .returned (.bool (decide (0 ≤ i ∧ i < n))) ∧ w = w' := by
  by_cases h0 : 0 ≤ i
  · by_cases h1 : i < n
    · rw [show decide (0 ≤ i ∧ i < n) = true from decide_eq_true ⟨h0, h1⟩]
      go_enter Tryz.func192, Tryz.ntmps192
      go_wp2
      go_ret
      exact ⟨rfl, rfl⟩
    · rw [show decide (0 ≤ i ∧ i < n) = false from decide_eq_false (fun h => h1 h.2)]
      go_enter Tryz.func192, Tryz.ntmps192
      go_wp2
      go_ret
      exact ⟨rfl, rfl⟩
  · rw [show decide (0 ≤ i ∧ i < n) = false from decide_eq_false (fun h => h0 h.1)]
    go_enter Tryz.func192, Tryz.ntmps192
    go_wp2
    go_ret
    exact ⟨rfl, rfl⟩

theorem single_any (first end_ i : Int) (h0 : 0 ≤ first) (h1 : first ≤ end_) (h2 : end_ ≤ 100000) (w : World) :
    Calls Tryz.prog 191 #[.int .i64 first, .int .i64 end_, .int .i64 i] w fun e w' => e = .returned (.int .i64 (ixs first i (end_ - first) 1)) ∧ w = w' := by
  unfold ixs
  by_cases hi : 0 ≤ i ∧ i < end_ - first
  · rw [if_neg (by omega), Int.mul_one]
    obtain ⟨i0, i1⟩ := hi
    go_enter Tryz.func191, Tryz.ntmps191
    go_wp2_with fail
    (with_reducible refine (below_any _ _ _).mono ?_)
    rintro e w1 ⟨rfl, rfl⟩
    rw [show decide (0 ≤ i ∧ i < end_ - first) = true from decide_eq_true ⟨i0, i1⟩]
    go_wp2
    go_ret
    exact ⟨rfl, rfl⟩
  · rw [if_pos (by omega)]
    have hd : decide (0 ≤ i ∧ i < end_ - first) = false := decide_eq_false hi
    clear hi
    go_enter Tryz.func191, Tryz.ntmps191
    go_wp2_with fail
    (with_reducible refine (below_any _ _ _).mono ?_)
    rintro e w1 ⟨rfl, rfl⟩
    rw [hd]
    go_wp2
    go_ret
    exact ⟨rfl, rfl⟩

section
variable {w : World} {c : Cfg}
theorem lsize_any : Calls Tryz.prog 187 #[lv c] w (GivesI 2 w) := by
  have B1 := Lib.hid (below_one w (lbox c))
  go_enter Tryz.func187, Tryz.ntmps187
  go_wp2
  go_ret
  exact ⟨rfl, B1.out⟩
theorem larrival_any : Calls Tryz.prog 166 #[lv c] w (GivesI 3 w) := by
  have B1 := Lib.hid (below_one w (lbox c))
  go_enter Tryz.func166, Tryz.ntmps166
  go_wp2
  go_ret
  exact ⟨rfl, B1.out⟩
theorem lslot_any (h : CfgIn c) (i : Int) : Calls Tryz.prog 188 #[lv c, .int .i64 i] w (GivesI (rSlot c i) w) := by
  have B1 := Lib.hid (below_one w (lbox c))
  have h1 := h.he
  have h2 := h.cl
  have h3 := h.wo
  have hd : rDeques c = 4 + c.he + c.cl + 2 * c.wo := rfl
  have hn : 4 + c.he - 4 = c.he := by omega
  have HN := Lib.hid hn
  clear hn
  go_enter Tryz.func188, Tryz.ntmps188
  go_wp2_with fail
  (with_reducible refine (single_any _ _ _ ?a1 ?a2 ?a3 _).mono ?_)
  case a1 => omega
  case a2 => omega
  case a3 => omega
  rintro e w1 ⟨rfl, rfl⟩
  rw [HN.out]
  clear hd
  go_wp2
  go_ret
  exact ⟨rfl, B1.out⟩
end
end Go.Proofs.YtanbjdlaolgepaaGreat

namespace Go.Proofs.YtanbjdlaolgepaaGreat
open Go Go.RowKit Go.Shelf
set_option linter.unusedSimpArgs false

/-- The cells of lines. -/
abbrev lncells (f : Fra) (cd vl : Int) : List Value := [.int .i64 f.ln, .int .i64 cd, .int .i64 vl]
/-- Block q begins with lines, then post. -/
structure LB (w : World) (q : Nat) (ty : TypeId) (post : List Value) (f : Fra) (cd vl : Int) : Prop where
  blk : Blk w q ty (lncells f cd vl ++ post).toArray
  t1 : ty ≠ 43
  t2 : ty ≠ 127
  t3 : ty ≠ 130
  t4 : ty ≠ 46

section
variable {w w' : World} {q : Nat} {ty : TypeId} {post : List Value} {f f' : Fra} {cd vl : Int}
theorem LB.at_ (h : LB w q ty post f cd vl) (j : Nat) (hj : j < 3) : w.cell? ⟨q, j, none⟩ = (lncells f cd vl)[j]? := by
  rw [h.blk.at_, List.getElem?_toArray, List.getElem?_append_left (by simpa using hj)]
theorem LB.free (h : LB w q ty post f cd vl) (j : Nat) : w.frozen? ⟨q, j, none⟩ = false := h.blk.free j
theorem LB.put (h : LB w q ty post f cd vl) (j : Nat) (hj : j < 3) (u : Value) (f' : Fra) (cd' vl' : Int) (hf : lncells f' cd' vl' = (lncells f cd vl).set j u) : LB (w.setCell ⟨q, j, none⟩ u) q ty post f' cd' vl' := by
  refine ⟨?_, h.t1, h.t2, h.t3, h.t4⟩
  have hb := h.blk.put j u
  rw [List.setIfInBounds_toArray, List.set_append_left _ _ (by simpa using hj), ← hf] at hb
  exact hb
theorem LB.of_same (h : LB w q ty post f cd vl) (e : w'.heap[q]? = w.heap[q]?) : LB w' q ty post f cd vl := ⟨h.blk.of_same e, h.t1, h.t2, h.t3, h.t4⟩
theorem LB.fr {S : List Nat} (h : LB w q ty post f cd vl) (hf : Fr S w w') (hq : q ∉ S) : LB w' q ty post f cd vl := h.of_same (hf.block q h.blk.lt hq)
theorem LB.below (h : LB w q ty post f cd vl) (hb : Below w.heap.size w w') : LB w' q ty post f cd vl := h.of_same (hb.block q h.blk.lt)
theorem LB.drewN (h : LB w q ty post f cd vl) (n : Nat) : LB (w.drewN n) q ty post f cd vl := h.of_same rfl
theorem LB.drew (h : LB w q ty post f cd vl) : LB w.drew q ty post f cd vl := h.of_same rfl
end

section
variable {w w' : World} {p m k g cap : Nat} {s s' : St} {t d : Int} {hd : List Value} {rv ev : Value} {q : Nat} {ty : TypeId} {post : List Value} {f f' : Fra} {cd vl : Int}
theorem LB.ne (h : LB w q ty post f cd vl) (hp : PE w p m k g cap s t d hd rv ev) : q ≠ p ∧ q ≠ m ∧ q ≠ k ∧ q ≠ g := by
  obtain ⟨cur, hb, _⟩ := hp.mem.row.blk
  exact ⟨h.blk.apart hp.blk h.t1, h.blk.apart hp.mem.blk h.t2, h.blk.apart hp.clk h.t3, h.blk.apart hb h.t4⟩
theorem PE.lown (hp : PE w p m k g cap s t d hd rv ev) (h : LB w q ty post f cd vl) (hf : Fr [q] w w') : PE w' p m k g cap s t d hd rv ev := by
  obtain ⟨n1, n2, n3, n4⟩ := h.ne hp
  exact hp.fr hf (by simpa using n1.symm) (by simpa using n2.symm) (by simpa using n3.symm) (by simpa using n4.symm)
theorem LB.acc (h : LB w q ty post f cd vl) (hp : PE w p m k g cap s t d hd rv ev) (hf : Fr [m, g] w w') : LB w' q ty post f cd vl := by
  obtain ⟨n1, n2, n3, n4⟩ := h.ne hp
  exact h.fr hf (by simp [n2, n4])

/-- The line that is next. -/
theorem lline_any (h : LB w q ty post f cd vl) :
    Calls Tryz.prog 171 #[.pointer (some ⟨q, 0, none⟩)] w fun e w' => e = .returned (.int .i64 f.ln) ∧ w = w' := by
  have c0 : w.cell? ⟨q, 0, none⟩ = some (.int .i64 f.ln) := h.at_ 0 (by omega)
  clear h
  go_enter Tryz.func171, Tryz.ntmps171
  go_wp2
  go_ret
  exact ⟨rfl, rfl⟩

/-- The next line. -/
theorem lnext_any (h : LB w q ty post f cd vl) (l : Int) :
    Calls Tryz.prog 176 #[.pointer (some ⟨q, 0, none⟩), .int .i64 l] w fun e w' => e = .returned (.bool false) ∧ LB w' q ty post { f with ln := l } cd vl ∧ Fr [q] w w' := by
  have c6 : w.cell? ⟨q, 0, none⟩ = some (.int .i64 f.ln) := h.at_ 0 (by omega)
  have k6 := h.free 0
  have H := Lib.hid h
  clear h
  go_enter Tryz.func176, Tryz.ntmps176
  go_wp2
  go_ret
  exact ⟨rfl, H.out.put 0 (by omega) (.int .i64 l) { f with ln := l } cd vl rfl, (Fr.refl _ _).setCell (by simp) _⟩

/-- The end. -/
theorem lend_any (h : LB w q ty post f cd vl) (c v : Int) :
    Calls Tryz.prog 175 #[.pointer (some ⟨q, 0, none⟩), .int .i64 c, .int .i64 v] w fun e w' => e = .returned (.bool true) ∧ LB w' q ty post { f with ln := 0 } c v ∧ Fr [q] w w' := by
  have c6 : w.cell? ⟨q, 0, none⟩ = some (.int .i64 f.ln) := h.at_ 0 (by omega)
  have c7 : w.cell? ⟨q, 1, none⟩ = some (.int .i64 cd) := h.at_ 1 (by omega)
  have c8 : w.cell? ⟨q, 2, none⟩ = some (.int .i64 vl) := h.at_ 2 (by omega)
  have k6 := h.free 0
  have k7 := h.free 1
  have k8 := h.free 2
  have H := Lib.hid h
  clear h
  go_enter Tryz.func175, Tryz.ntmps175
  go_wp2
  go_ret
  exact ⟨rfl, ((H.out.put 0 (by omega) (.int .i64 0) { f with ln := 0 } cd vl rfl).put 1 (by omega) (.int .i64 c) { f with ln := 0 } c vl rfl).put 2 (by omega) (.int .i64 v) { f with ln := 0 } c v rfl,
    (((Fr.refl [q] _).setCell (by simp) _).setCell (by simp) _).setCell (by simp) _⟩

/-- The result. -/
theorem lresult_any (h : LB w q ty post f cd vl) :
    Calls Tryz.prog 172 #[.pointer (some ⟨q, 0, none⟩)] w fun e w' => e = .returned (.tuple #[.int .i64 cd, .int .i64 vl]) ∧ ∃ n, w' = w.drewN n := by
  have c7 : w.cell? ⟨q, 1, none⟩ = some (.int .i64 cd) := h.at_ 1 (by omega)
  have c8 : w.cell? ⟨q, 2, none⟩ = some (.int .i64 vl) := h.at_ 2 (by omega)
  clear h
  go_enter Tryz.func172, Tryz.ntmps172
  go_wp2_with fail
  go_quiet (fail)
  go_wp2
  go_ret2
  exact ⟨rfl, _, rfl⟩

end
end Go.Proofs.YtanbjdlaolgepaaGreat

namespace Go.Proofs.YtanbjdlaolgepaaGreat
open Go Go.RowKit Go.Shelf
set_option linter.unusedSimpArgs false

/-- The nine numbers of a configuration. -/
abbrev numsC (c : Cfg) : List Value := [.int .i64 c.wo, .int .i64 c.le, .int .i64 c.cl, .int .i64 c.ta, .int .i64 c.de, .int .i64 c.he, .int .i64 c.ba, .int .i64 c.ag, .int .i64 c.pa]
/-- The cells ahead of an environment's pointers hold the numbers and the layout of c. -/
def LayHd (hd : List Value) (c : Cfg) : Prop := (∀ j, j < 9 → hd[11 + j]? = (lcells c)[j]?) ∧ ∀ j, j < 9 → hd[j]? = (numsC c)[j]?
section
variable {w w' : World} {p m k g cap : Nat} {s s' : St} {t d : Int} {hd : List Value} {rv ev : Value} {c : Cfg}
theorem PE.lay (h : PE w p m k g cap s t d hd rv ev) (hl : LayHd hd c) (j : Nat) (hj : j < 9) : w.cell? ⟨p, 11 + j, none⟩ = (lcells c)[j]? := by
  rw [h.blk.at_, List.getElem?_toArray, List.getElem?_append_left (by have := h.len; omega)]
  exact hl.1 j hj
theorem PE.num (h : PE w p m k g cap s t d hd rv ev) (hl : LayHd hd c) (j : Nat) (hj : j < 9) : w.cell? ⟨p, j, none⟩ = (numsC c)[j]? := by
  rw [h.blk.at_, List.getElem?_toArray, List.getElem?_append_left (by have := h.len; omega)]
  exact hl.2 j hj
/-- The nine cells of the layout. -/
def LayS (w : World) (p : Nat) (c : Cfg) : Prop := w.cell? ⟨p, 11, none⟩ = some (.int .i64 4) ∧ w.cell? ⟨p, 12, none⟩ = some (.int .i64 (4 + c.he)) ∧ w.cell? ⟨p, 13, none⟩ = some (.int .i64 (4 + c.he + c.cl)) ∧ w.cell? ⟨p, 14, none⟩ = some (.int .i64 (4 + c.he + c.cl + c.wo)) ∧ w.cell? ⟨p, 15, none⟩ = some (.int .i64 (rDeques c)) ∧ w.cell? ⟨p, 16, none⟩ = some (.int .i64 (rDeques c + rAll c)) ∧ w.cell? ⟨p, 17, none⟩ = some (.int .i64 (rCells c)) ∧ w.cell? ⟨p, 18, none⟩ = some (.int .i64 c.le) ∧ w.cell? ⟨p, 19, none⟩ = some (.int .i64 c.de)
theorem PE.layS (h : PE w p m k g cap s t d hd rv ev) (hl : LayHd hd c) : LayS w p c :=
  ⟨h.lay hl 0 (by omega), h.lay hl 1 (by omega), h.lay hl 2 (by omega), h.lay hl 3 (by omega), h.lay hl 4 (by omega), h.lay hl 5 (by omega), h.lay hl 6 (by omega), h.lay hl 7 (by omega), h.lay hl 8 (by omega)⟩
variable {b : Nat} {ty : TypeId} {cs : Array Value}
end
end Go.Proofs.YtanbjdlaolgepaaGreat

namespace Go.Proofs.YtanbjdlaolgepaaGreat
open Go Go.RowKit

theorem tick_any {w : World} {p : Nat} {t d : Int} (h : Clk w p t d) :
    Calls Tryz.prog 24 #[.pointer (some ⟨p, 0, none⟩)] w fun e w' => e = .returned (.tuple #[]) ∧ Clk w' p (wrap64 (t + 1)) d ∧ Fr [p] w w' := by
  have h0 : w.cell? ⟨p, 0, none⟩ = some (.int .i64 t) := Blk.at_ h 0
  have f0 := Blk.free h 0
  go_enter Tryz.func24, Tryz.ntmps24
  go_wp2
  go_end0
  exact ⟨rfl, Blk.put h 0 _, (Fr.refl _ _).setCell (by simp) _⟩
end Go.Proofs.YtanbjdlaolgepaaGreat

namespace Go.Proofs.YtanbjdlaolgepaaGreat
open Go Go.RowKit

theorem set_any {w : World} {p : Nat} {t d : Int} (h : Clk w p t d) (x : Int) :
    Calls Tryz.prog 25 #[.pointer (some ⟨p, 0, none⟩), .int .i64 x] w fun e w' => e = .returned (.tuple #[]) ∧ Clk w' p t x ∧ Fr [p] w w' := by
  have h1 : w.cell? ⟨p, 1, none⟩ = some (.int .i64 d) := Blk.at_ h 1
  have f1 := Blk.free h 1
  go_enter Tryz.func25, Tryz.ntmps25
  go_wp2
  go_end0
  exact ⟨rfl, Blk.put h 1 _, (Fr.refl _ _).setCell (by simp) _⟩

end Go.Proofs.YtanbjdlaolgepaaGreat

namespace Go.Proofs.YtanbjdlaolgepaaGreat
open Go Go.RowKit Go.Shelf

/-- What the loop over the changes keeps. -/
def EnvsC (w2 : World) (p m k g n t : Nat) (hd : List Value) (rv : Value) (q : Nat) (A : EnvA) (i : Value) (wr : World) : Prop :=
  ∃ (j : Nat) (s : St), j ≤ 13 ∧ i = .int .i64 j ∧ Duo wr w2.heap.size p m k g n hd rv nilV q A s s 0 0 [] [] (newRs t) (newRs t) ∧ s.U ∧ (0 ≤ s.c ∧ s.c ≤ n + j) ∧ s.X.length = n ∧ Below w2.heap.size w2 wr
/-- What the loop of the ticks keeps. -/
def EnvsT (w2 : World) (p m k g n t : Nat) (hd : List Value) (rv : Value) (q : Nat) (A : EnvA) (s : St) (T : Nat) (i : Value) (wr : World) : Prop :=
  ∃ (j : Nat), j ≤ T ∧ i = .int .i64 j ∧ Duo wr w2.heap.size p m k g n hd rv nilV q A s s j 0 [] [] (newRs t) (newRs t) ∧ Below w2.heap.size w2 wr
theorem OwnR.offB {w w' : World} {B q : Nat} {ty : TypeId} {cs : Array Value} {v : Value} {rs : List Rec} (h : OwnR w B v rs) (hb : Blk w q ty cs) (h1 : ty ≠ 119) (h2 : ty ≠ 3) (hf : Fr [q] w w') : OwnR w' B v rs :=
  h.same fun k cs' t hk ht => hf.block k (Array.getElem?_eq_some_iff.1 hk).1 (fun hm => by
    simp at hm
    subst hm
    have e := ty_at hb hk
    rcases ht with rfl | rfl
    · exact h1 e
    · exact h2 e)
theorem OwnR.own {w : World} {B : Nat} {v : Value} {rs : List Rec} (h : OwnR w B v rs) : ∀ y, v.ownBlock = some y → B ≤ y ∧ y < w.heap.size := fun y hy => by
  obtain ⟨ks, _, h2, _⟩ := h
  exact World.ownsRow.lt h2 y hy
theorem hd_set22 {hd : List Value} (h : hd.length = 20) (a b c d v : Value) : (hd ++ [a, b, c, d]).toArray.setIfInBounds 22 v = (hd ++ [a, b, v, d]).toArray := by
  rw [List.setIfInBounds_toArray, List.set_append_right _ _ (by omega), h]
  rfl
theorem U_ofX {s s0 : St} (h : s0.U) (e : s.X = s0.X) : s.U := by
  obtain ⟨X, c, k, i, o, v⟩ := s
  obtain ⟨X0, c0, k0, i0, o0, v0⟩ := s0
  simp only at e
  subst e
  exact h
end Go.Proofs.YtanbjdlaolgepaaGreat
