/-
  Package machine: the environment of the program, Bare; a counter, which adds 1 to a cell with each step.
-/
import Derived.Test.YtllkehdokgfafaaMemAdd
import Derived.Test.YtllkehdokgfafaaMemCallsB
import Derived.Test.YtllkehdokgfafaaClkA
import Derived.StillTailTactics
import Derived.Deep.Cut
import Derived.Deep.CutRange
namespace Go.Proofs.Ytllkehdokgfafaa
open Go Go.RowKit Go.Shelf

/-- Block p is an environment of the program: ahead of its pointers stand the cells hd of its configuration and its layout. -/
structure PE (w : World) (p m k g cap : Nat) (s : St) (t d : Int) (hd : List Value) (rv ev : Value) : Prop where
  blk : Blk w p 41 (hd ++ [.pointer (some ⟨m, 0, none⟩), .pointer (some ⟨k, 0, none⟩), rv, ev]).toArray
  len : hd.length = 20
  mem : Mem w m g cap s
  clk : Clk w k t d

section
variable {w w' : World} {p m k g cap : Nat} {s s' : St} {t d : Int} {hd : List Value} {rv ev : Value}
theorem PE.at20 (h : PE w p m k g cap s t d hd rv ev) : w.cell? ⟨p, 20, none⟩ = some (.pointer (some ⟨m, 0, none⟩)) := by
  rw [h.blk.at_, List.getElem?_toArray, List.getElem?_append_right (by rw [h.len]; decide), h.len]; rfl
theorem PE.at21 (h : PE w p m k g cap s t d hd rv ev) : w.cell? ⟨p, 21, none⟩ = some (.pointer (some ⟨k, 0, none⟩)) := by
  rw [h.blk.at_, List.getElem?_toArray, List.getElem?_append_right (by rw [h.len]; decide), h.len]; rfl
theorem PE.at22 (h : PE w p m k g cap s t d hd rv ev) : w.cell? ⟨p, 22, none⟩ = some rv := by
  rw [h.blk.at_, List.getElem?_toArray, List.getElem?_append_right (by rw [h.len]; decide), h.len]; rfl
theorem PE.at23 (h : PE w p m k g cap s t d hd rv ev) : w.cell? ⟨p, 23, none⟩ = some ev := by
  rw [h.blk.at_, List.getElem?_toArray, List.getElem?_append_right (by rw [h.len]; decide), h.len]; rfl
theorem PE.hpm (h : PE w p m k g cap s t d hd rv ev) : p ≠ m := h.blk.apart h.mem.blk (by decide)
theorem PE.hpk (h : PE w p m k g cap s t d hd rv ev) : p ≠ k := h.blk.apart h.clk (by decide)
theorem PE.hpg (h : PE w p m k g cap s t d hd rv ev) : p ≠ g := by
  obtain ⟨cur, hb, _⟩ := h.mem.row.blk
  exact h.blk.apart hb (by decide)
theorem PE.hkm (h : PE w p m k g cap s t d hd rv ev) : k ≠ m := Blk.apart h.clk h.mem.blk (by decide)
theorem PE.hkg (h : PE w p m k g cap s t d hd rv ev) : k ≠ g := by
  obtain ⟨cur, hb, _⟩ := h.mem.row.blk
  exact Blk.apart h.clk hb (by decide)
theorem PE.acc (h : PE w p m k g cap s t d hd rv ev) (hm : Mem w' m g cap s') (hf : Fr [m, g] w w') : PE w' p m k g cap s' t d hd rv ev :=
  ⟨h.blk.of_same (hf.block p h.blk.lt (by simp [h.hpm, h.hpg])), h.len, hm, h.clk.fr hf (by simp [h.hkm, h.hkg])⟩
theorem PE.fr {S : List Nat} (h : PE w p m k g cap s t d hd rv ev) (hf : Fr S w w') (h1 : p ∉ S) (h2 : m ∉ S) (h3 : k ∉ S) (h4 : g ∉ S) : PE w' p m k g cap s t d hd rv ev :=
  ⟨h.blk.of_same (hf.block p h.blk.lt h1), h.len, h.mem.fr hf h2 h4, h.clk.fr hf h3⟩
theorem PE.below (h : PE w p m k g cap s t d hd rv ev) (hb : Below w.heap.size w w') : PE w' p m k g cap s t d hd rv ev :=
  h.fr (Fr.old (S := []) hb) (by simp) (by simp) (by simp) (by simp)
theorem PE.alloc (h : PE w p m k g cap s t d hd rv ev) (o : Obj) : PE (w.alloc o) p m k g cap s t d hd rv ev := h.below ((Below.refl _ _).alloc (Nat.le_refl _) o)
theorem PE.drewN (h : PE w p m k g cap s t d hd rv ev) (n : Nat) : PE (w.drewN n) p m k g cap s t d hd rv ev := ⟨h.blk, h.len, h.mem.drewN n, h.clk⟩
end

/-- The cells ahead of the pointers, in an environment that Bare makes. -/
abbrev hd0 : List Value := [.int .i64 0, .int .i64 0, .int .i64 0, .int .i64 0, .int .i64 0, .int .i64 0, .int .i64 0, .int .i64 0, .int .i64 0, .slice none 0 0, .slice none 0 0, .int .i64 0, .int .i64 0, .int .i64 0, .int .i64 0, .int .i64 0, .int .i64 0, .int .i64 0, .int .i64 0, .int .i64 0]

/-- What Bare gives: a new environment with a memory of n cells. -/
def Bared (w : World) (n : Nat) (e : Ending) (w' : World) : Prop :=
  ∃ p m k g : Nat, e = .returned (.pointer (some ⟨p, 0, none⟩)) ∧ PE w' p m k g n (St.new n) 0 0 hd0 (.slice none 0 0) (.slice none 0 0) ∧ Below w.heap.size w w' ∧ w.heap.size ≤ p ∧ w.heap.size ≤ m ∧ w.heap.size ≤ k ∧ w.heap.size ≤ g

theorem bare_any (c : Int) (w : World) : Calls Try.prog 17 #[.int .i64 c] w (Bared w (sizeS c)) := by
  go_enter Try.func17, Try.ntmps17
  go_wp2_with fail
  refine (new_any c w).mono ?_
  rintro e w1 ⟨rfl, hm, hb⟩
  go_wp2_with fail
  refine (cnew_any w1).mono ?_
  rintro e w2 ⟨rfl, hk, hb2⟩
  have hs := hb.size
  have hs2 := hb2.size
  have hm2 := hm.fr (Fr.old (S := []) hb2) (by simp) (by simp)
  have hb3 : Below w.heap.size w w2 := hb.trans (hb2.mono hs)
  generalize hW : w.heap.size = N at *
  have hg := hm2.row.lt
  have hmm := hm2.blk.lt
  clear hm hb hb2
  go_wp2
  go_ret
  refine ⟨w2.heap.size, N + 1, w1.heap.size, N, rfl, ⟨Blk.made w2 _ _, rfl, hm2.alloc _, hk.below ((Below.refl _ _).alloc (Nat.le_refl _) _)⟩, hW ▸ (hb3.alloc (by omega) _), by omega, by omega, by omega, by omega⟩

/-- Block q is a counter of cell c with l steps left. -/
def Cnt (w : World) (q : Nat) (c l : Int) : Prop := Blk w q 54 #[.int .i64 c, .int .i64 l]
theorem Cnt.fr {S : List Nat} {w w' : World} {q : Nat} {c l : Int} (h : Cnt w q c l) (f : Fr S w w') (hq : q ∉ S) : Cnt w' q c l := Blk.of_same h (f.block q (Blk.lt h) hq)

theorem step_zero {w : World} {q : Nat} {c : Int} (hq : Cnt w q c 0) (v : Value) :
    Calls Try.prog 89 #[.pointer (some ⟨q, 0, none⟩), v] w fun e w' => e = .returned (.bool true) ∧ w = w' := by
  have h1 : w.cell? ⟨q, 1, none⟩ = some (.int .i64 0) := Blk.at_ hq 1
  go_enter Try.func89, Try.ntmps89
  go_wp2
  go_ret
  exact ⟨rfl, rfl⟩

/-- A step that adds 1. -/
def Stepped (w : World) (p m k g cap : Nat) (s : St) (t d : Int) (hd : List Value) (rv ev : Value) (q : Nat) (c : Int) (l : Nat) (e : Ending) (w' : World) : Prop :=
  e = .returned (.bool (decide (l = 0))) ∧ PE w' p m k g cap (s.go 6 c fun x => IntKind.u64.wrap (x + 1)) t d hd rv ev ∧ Cnt w' q c l ∧ Fr [m, g, q] w w'

set_option maxRecDepth 100000 in
set_option maxHeartbeats 1000000 in
theorem step_more {w : World} {p m k g cap : Nat} {s : St} {t d : Int} {hd : List Value} {rv ev : Value} (h : PE w p m k g cap s t d hd rv ev) {q : Nat} {c : Int} {l : Nat} (hl : l ≤ 100) (hq : Cnt w q c ((l + 1 : Nat) : Int)) :
    Calls Try.prog 89 #[.pointer (some ⟨q, 0, none⟩), .pointer (some ⟨p, 0, none⟩)] w (Stepped w p m k g cap s t d hd rv ev q c l) := by
  have h0 : w.cell? ⟨q, 0, none⟩ = some (.int .i64 c) := Blk.at_ hq 0
  have h1 : w.cell? ⟨q, 1, none⟩ = some (.int .i64 ((l + 1 : Nat) : Int)) := Blk.at_ hq 1
  have h20 := h.at20
  have hqm : q ≠ m := Blk.apart hq h.mem.blk (by decide)
  have hqg : q ≠ g := by
    obtain ⟨cur, hb, _⟩ := h.mem.row.blk
    exact Blk.apart hq hb (by decide)
  have hlt : (0 : Int) < ((l + 1 : Nat) : Int) := by omega
  generalize hL : ((l + 1 : Nat) : Int) = L at *
  have HL := Lib.hid hL
  clear hL
  have H := Lib.hid h
  have HQ := Lib.hid hq
  go_enter Try.func89, Try.ntmps89
  go_upto_region 2 with fail
  go_still_tail 8, (by kernel_rfl)
  change wpList _ _ _ _ _ w.drew
  have H1 := Lib.hid (h.drewN 1)
  have HQ1 := Lib.hid (show Cnt w.drew q c L from hq)
  generalize hw1 : w.drew = w1 at *
  have HF := Lib.hid (show Fr [m, g, q] w w1 by rw [← hw1]; exact (Fr.refl _ _).drew)
  have H1' := Lib.hid (show PE w1 p m k g cap s t d hd rv ev by rw [← hw1]; exact h.drewN 1)
  clear hw1 H1
  go_wp2_with fail
  (with_reducible refine (add_any H1'.out.mem c 1).mono ?_)
  rintro e w2 ⟨rfl, hm, hf⟩
  have H2 := Lib.hid (H1'.out.acc hm hf)
  have hq2 : Cnt w2 q c L := HQ1.out.fr hf (by simp [hqm, hqg])
  have hf2 : Fr [m, g, q] w w2 := HF.out.trans (hf.mono (by simp))
  clear hm hf HQ1 H1' HF HQ H h hq h0 h1 h20
  have h1 : w2.cell? ⟨q, 1, none⟩ = some (.int .i64 L) := Blk.at_ hq2 1
  have f1 := Blk.free hq2 1
  have hqp : p ≠ q := H2.out.blk.apart hq2 (by decide)
  have hqk : k ≠ q := Blk.apart H2.out.clk hq2 (by decide)
  have hr : wrap64 (L - 1) = (l : Int) := by have := HL.out; unfold wrap64; omega
  have HN := Lib.hid (And.intro hqm (And.intro hqg (And.intro hqp hqk)))
  have HF2 := Lib.hid hf2
  have HQ2 := Lib.hid hq2
  clear hqp hqk hqm hqg hf2 hq2 hlt HL
  go_wp2
  go_ret
  obtain ⟨hqm, hqg, hqp, hqk⟩ := HN.out
  have hfin : Fr [q] w2 (w2.setCell ⟨q, 1, none⟩ (.int .i64 l)) := (Fr.refl _ _).setCell (by simp) _
  refine ⟨?_, H2.out.fr hfin (by simp [hqp]) (by simp [hqm.symm]) (by simp [hqk]) (by simp [hqg.symm]), HQ2.out.put 1 (.int .i64 l), HF2.out.trans (hfin.mono (by simp))⟩
  have eb : ((l : Int) == 0) = decide (l = 0) := by
    rw [Bool.eq_iff_iff]; simp
  show Ending.returned (.bool ((l : Int) == 0)) = _
  rw [eb]
end Go.Proofs.Ytllkehdokgfafaa
