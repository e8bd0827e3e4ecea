/-
  The keep's Config. (Written by wip/gen_lye.py.)
  Package memory: Peek.
  Package memory: Add.
  A counter, which adds 1 to a cell with each step.
  What an access changes of a memory's state. No function is named.
-/
import Derived.Test.YthiiidkkdlmneaaCfRDec
import Derived.Test.YthiiidkkdlmneaaMgBI
import Derived.Test.YthiiidkkdlmneaaMgAB
import Derived.Test.YthiiidkkdlmneaaMgAD
import Derived.Test.YthiiidkkdlmneaaMgAA
namespace Go.Proofs.Ythiiidkkdlmneaa
open Go Go.RowKit

theorem InB.up {w w' : World} {a : Option Addr} {n : Nat} {zs : List Int} (h : InB w w.heap.size a n zs) (hb : Below w.heap.size w w') : InB w' w'.heap.size a n zs := (h.below (Nat.le_refl _) hb).mono hb.size

theorem config_any {w : World} {a : Option Addr} {L : Nat} {zs : List Int} (h : InB w w.heap.size a L zs) (c : Nat) :
    Calls Try.prog 7 #[.slice a L c] w (Decoded zs w) := by
  have H := Lib.hid (h.up (below_one w (.cells zero11 26)))
  have B0 := Lib.hid (below_one w (.cells zero11 26))
  have Z0 := Lib.hid (Blk.made w 26 zero11)
  have hsz : (w.alloc (.cells zero11 26)).heap.size = w.heap.size + 1 := by simp
  clear h
  go_enter Try.func7, Try.ntmps7
  go_wp2_with fail
  (with_reducible refine (rdecode_any H.out c).mono ?_)
  rintro e w1 ⟨v, rfl, hcfg, hb⟩
  obtain ⟨pa, pn, pc, sa, sn, sc, rfl, h1, h2, h3, h4⟩ := hcfg
  obtain ⟨d, hd⟩ : ∃ d, decC (strm zs) = d := ⟨_, rfl⟩
  rw [hd] at h1 h2 h3 h4 ⊢
  have HDD := Lib.hid hd
  have HC := Lib.hid (And.intro h1 (And.intro h2 (And.intro h3 h4)))
  have HS := Lib.hid hsz
  have HB := Lib.hid (B0.out.trans (hb.mono B0.out.size))
  have Z1 := Lib.hid (Z0.out.below hb)
  clear h1 h2 h3 h4 hb hsz hd
  obtain ⟨d0, d1, d2, d3, d4, d5, d6, d7, d8, d9, d10⟩ := (⟨Z1.out.at_ 0, Z1.out.at_ 1, Z1.out.at_ 2, Z1.out.at_ 3, Z1.out.at_ 4, Z1.out.at_ 5, Z1.out.at_ 6, Z1.out.at_ 7, Z1.out.at_ 8, Z1.out.at_ 9, Z1.out.at_ 10⟩ : _ ∧ _ ∧ _ ∧ _ ∧ _ ∧ _ ∧ _ ∧ _ ∧ _ ∧ _ ∧ _)
  obtain ⟨g0, g1, g2, g3, g4, g5, g6, g7, g8, g9, g10⟩ := (⟨Z1.out.free 0, Z1.out.free 1, Z1.out.free 2, Z1.out.free 3, Z1.out.free 4, Z1.out.free 5, Z1.out.free 6, Z1.out.free 7, Z1.out.free 8, Z1.out.free 9, Z1.out.free 10⟩ : _ ∧ _ ∧ _ ∧ _ ∧ _ ∧ _ ∧ _ ∧ _ ∧ _ ∧ _ ∧ _)
  simp only [List.getElem?_toArray, List.getElem?_cons_zero, List.getElem?_cons_succ] at d0 d1 d2 d3 d4 d5 d6 d7 d8 d9 d10
  go_wp2
  have hD := Z1.out.put11 (.int .i64 d.wo) (.int .i64 d.le) (.int .i64 d.cl) (.int .i64 d.ta) (.int .i64 d.de) (.int .i64 d.he) (.int .i64 d.ba) (.int .i64 d.ag) (.int .i64 d.pa) (.slice pa pn pc) (.slice sa sn sc)
  have hF := fr11 w1 w.heap.size (.int .i64 d.wo) (.int .i64 d.le) (.int .i64 d.cl) (.int .i64 d.ta) (.int .i64 d.de) (.int .i64 d.he) (.int .i64 d.ba) (.int .i64 d.ag) (.int .i64 d.pa) (.slice pa pn pc) (.slice sa sn sc)
  refine bodyPost_ret (results_cell_row (P := Try.prog) Try.results7 _ _ w.heap.size 26 _ (0, 0) _ rfl hD Try.underlying26 rfl (by kernel_rfl)) rfl ?_
  obtain ⟨h1, h2, h3, h4⟩ := HC.out
  have hs := HS.out
  have hS : ∀ s, s ∈ [w.heap.size] → s < (w.alloc (.cells zero11 26)).heap.size := fun s hs' => by simp at hs'; omega
  have hS' : ∀ s, s ∈ [w.heap.size] → ¬ (w.alloc (.cells zero11 26)).heap.size ≤ s := fun s hs' => by have := hS s hs'; omega
  have hle : w.heap.size ≤ (w.alloc (.cells zero11 26)).heap.size := by omega
  have k1 := h1.fr hF (fun s hs' => by have := hS s hs'; omega)
  have k2 := h2.fr hF (fun s hs' => by have := hS s hs'; omega)
  obtain ⟨_, pc', e1, hp, _⟩ := k1.form
  obtain ⟨_, sc', e2, hss, _⟩ := k2.form
  cases e1
  cases e2
  unfold Decoded
  rw [HDD.out]
  exact ⟨_, rfl, ⟨pa, _, pc, sa, _, sc, rfl, k1.mono hle, k2.mono hle, hp.mono hle, hss.mono hle⟩, HB.out.trans (hF.below HB.out.size (fun k hk => by simp at hk; omega))⟩

end Go.Proofs.Ythiiidkkdlmneaa

namespace Go.Proofs.Ythiiidkkdlmneaa
open Go Go.RowKit Go.Shelf

theorem peek_any {w : World} {p g cap : Nat} {s : St} (h : Mem w p g cap s) (i : Int) :
    Calls Try.prog 25 #[.pointer (some ⟨p, 0, none⟩), .int .i64 i] w fun e w' => e = .returned (.int .u64 (s.old i)) ∧ w = w' := by
  have h0 : w.cell? ⟨p, 0, none⟩ = some (.slice (some ⟨g, 0, none⟩) s.X.length cap) := h.blk.at_ 0
  have hs := h.small
  by_cases hi : s.has i
  · obtain ⟨j, rfl⟩ : ∃ j : Nat, i = (j : Int) := ⟨i.toNat, by have := hi.1; omega⟩
    have hj : j < s.X.length := by have := hi.2; omega
    have hc := h.row.cell hj
    simp only [St.old, if_pos hi, Int.toNat_natCast]
    generalize s.X.getD j 0 = x at *
    have H := has_yes h hj
    go_enter Try.func25, Try.ntmps25
    go_wp2_with fail
    refine H.mono ?_
    rintro e w' ⟨rfl, rfl⟩
    go_wp2
    go_ret
    exact ⟨rfl, rfl⟩
  · have H := Lib.hid (has_no h (St.has_no hi))
    simp only [St.old, if_neg hi]
    go_enter Try.func25, Try.ntmps25
    go_wp2_with fail
    refine H.out.mono ?_
    rintro e w' ⟨rfl, rfl⟩
    go_wp2
    go_ret
    exact ⟨rfl, rfl⟩
end Go.Proofs.Ythiiidkkdlmneaa

namespace Go.Proofs.Ythiiidkkdlmneaa
open Go Go.RowKit Go.Shelf

theorem add_fn (x v : Int) (a : Addr) (w : World) (h : w.cell? a = some (.int .u64 v)) : Calls Try.prog 99 #[.int .u64 x, .pointer (some a)] w fun e w' => e = .returned (.int .u64 (IntKind.u64.wrap (x + v))) ∧ w = w' := by
  go_enter Try.func99, Try.ntmps99
  go_wp2
  go_ret
  exact ⟨rfl, rfl⟩

theorem add_any {w : World} {p g cap : Nat} {s : St} (h : Mem w p g cap s) (i v : Int) :
    Calls Try.prog 98 #[.pointer (some ⟨p, 0, none⟩), .int .i64 i, .int .u64 v] w fun e w' => e = .returned (.int .u64 (s.old i)) ∧ Mem w' p g cap (s.go 6 i fun x => IntKind.u64.wrap (x + v)) ∧ Fr [p, g] w w' := by
  have hc : (w.alloc (.cells #[.int .u64 v] 50)).cell? ⟨w.heap.size, 0, none⟩ = some (.int .u64 v) := (Blk.made w 50 #[.int .u64 v]).at_ 0
  have H := access_any (h.alloc (.cells #[.int .u64 v] 50)) 6 i 99 #[.pointer (some ⟨w.heap.size, 0, none⟩)] _ (enters_of Try.func99 (by kernel_rfl) rfl) (fun x => add_fn x v _ _ hc)
  generalize s.old i = x at *
  generalize decide (s.has i) = b at *
  go_enter Try.func98, Try.ntmps98
  go_wp2_with fail
  refine H.mono ?_
  rintro e w' ⟨rfl, hm, hfr⟩
  go_wp2
  go_ret
  exact ⟨rfl, hm, ((Fr.refl _ _).alloc _).trans hfr⟩
end Go.Proofs.Ythiiidkkdlmneaa

namespace Go.Proofs.Ythiiidkkdlmneaa
open Go Go.RowKit Go.Shelf

/-- Block q is a counter of cell c with l steps left. -/
def Cnt (w : World) (q : Nat) (c l : Int) : Prop := Blk w q 87 #[.int .i64 c, .int .i64 l]
theorem Cnt.fr {S : List Nat} {w w' : World} {q : Nat} {c l : Int} (h : Cnt w q c l) (f : Fr S w w') (hq : q ∉ S) : Cnt w' q c l := Blk.of_same h (f.block q (Blk.lt h) hq)

theorem step_zero {w : World} {q : Nat} {c : Int} (hq : Cnt w q c 0) (v : Value) :
    Calls Try.prog 97 #[.pointer (some ⟨q, 0, none⟩), v] w fun e w' => e = .returned (.bool true) ∧ w = w' := by
  have h1 : w.cell? ⟨q, 1, none⟩ = some (.int .i64 0) := Blk.at_ hq 1
  go_enter Try.func97, Try.ntmps97
  go_wp2
  go_ret
  exact ⟨rfl, rfl⟩

/-- A step that adds 1. -/
def CStepped (w : World) (p m k g cap : Nat) (s : St) (t d : Int) (hd : List Value) (rv ev : Value) (q : Nat) (c : Int) (l : Nat) (e : Ending) (w' : World) : Prop :=
  e = .returned (.bool (decide (l = 0))) ∧ PE w' p m k g cap (s.go 6 c fun x => IntKind.u64.wrap (x + 1)) t d hd rv ev ∧ Cnt w' q c l ∧ Fr [m, g, q] w w'

set_option maxRecDepth 100000 in
set_option maxHeartbeats 1000000 in
theorem step_more {w : World} {p m k g cap : Nat} {s : St} {t d : Int} {hd : List Value} {rv ev : Value} (h : PE w p m k g cap s t d hd rv ev) {q : Nat} {c : Int} {l : Nat} (hl : l ≤ 100) (hq : Cnt w q c ((l + 1 : Nat) : Int)) :
    Calls Try.prog 97 #[.pointer (some ⟨q, 0, none⟩), .pointer (some ⟨p, 0, none⟩)] w (CStepped w p m k g cap s t d hd rv ev q c l) := by
  have h0 : w.cell? ⟨q, 0, none⟩ = some (.int .i64 c) := Blk.at_ hq 0
  have h1 : w.cell? ⟨q, 1, none⟩ = some (.int .i64 ((l + 1 : Nat) : Int)) := Blk.at_ hq 1
  have h20 := h.at20
  have hqm : q ≠ m := Blk.apart hq h.mem.blk (by decide)
  have hqg : q ≠ g := by
    obtain ⟨cur, hb, _⟩ := h.mem.row.blk
    exact Blk.apart hq hb (by decide)
  have hlt : (0 : Int) < ((l + 1 : Nat) : Int) := by omega
  generalize hL : ((l + 1 : Nat) : Int) = L at *
  have HL := Lib.hid hL
  clear hL
  have H := Lib.hid h
  have HQ := Lib.hid hq
  go_enter Try.func97, Try.ntmps97
  go_upto_region 2 with fail
  go_still_tail 8, (by kernel_rfl)
  change wpList _ _ _ _ _ w.drew
  have H1 := Lib.hid (h.drewN 1)
  have HQ1 := Lib.hid (show Cnt w.drew q c L from hq)
  generalize hw1 : w.drew = w1 at *
  have HF := Lib.hid (show Fr [m, g, q] w w1 by rw [← hw1]; exact (Fr.refl _ _).drew)
  have H1' := Lib.hid (show PE w1 p m k g cap s t d hd rv ev by rw [← hw1]; exact h.drewN 1)
  clear hw1 H1
  go_wp2_with fail
  (with_reducible refine (add_any H1'.out.mem c 1).mono ?_)
  rintro e w2 ⟨rfl, hm, hf⟩
  have H2 := Lib.hid (H1'.out.acc hm hf)
  have hq2 : Cnt w2 q c L := HQ1.out.fr hf (by simp [hqm, hqg])
  have hf2 : Fr [m, g, q] w w2 := HF.out.trans (hf.mono (by simp))
  clear hm hf HQ1 H1' HF HQ H h hq h0 h1 h20
  have h1 : w2.cell? ⟨q, 1, none⟩ = some (.int .i64 L) := Blk.at_ hq2 1
  have f1 := Blk.free hq2 1
  have hqp : p ≠ q := H2.out.blk.apart hq2 (by decide)
  have hqk : k ≠ q := Blk.apart H2.out.clk hq2 (by decide)
  have hr : wrap64 (L - 1) = (l : Int) := by have := HL.out; unfold wrap64; omega
  have HN := Lib.hid (And.intro hqm (And.intro hqg (And.intro hqp hqk)))
  have HF2 := Lib.hid hf2
  have HQ2 := Lib.hid hq2
  clear hqp hqk hqm hqg hf2 hq2 hlt HL
  go_wp2
  go_ret
  obtain ⟨hqm, hqg, hqp, hqk⟩ := HN.out
  have hfin : Fr [q] w2 (w2.setCell ⟨q, 1, none⟩ (.int .i64 l)) := (Fr.refl _ _).setCell (by simp) _
  refine ⟨?_, H2.out.fr hfin (by simp [hqp]) (by simp [hqm.symm]) (by simp [hqk]) (by simp [hqg.symm]), HQ2.out.put 1 (.int .i64 l), HF2.out.trans (hfin.mono (by simp))⟩
  have eb : ((l : Int) == 0) = decide (l = 0) := by
    rw [Bool.eq_iff_iff]; simp
  show Ending.returned (.bool ((l : Int) == 0)) = _
  rw [eb]
end Go.Proofs.Ythiiidkkdlmneaa

namespace Go.Proofs.Ythiiidkkdlmneaa
open Go Go.RowKit

theorem go_len (s : St) (k i : Int) (F : Int → Int) : (s.go k i F).X.length = s.X.length := by
  unfold St.go
  split
  · simp [St.acc]
  · rfl
theorem go_has (s : St) (k i j : Int) (F : Int → Int) : (s.go k i F).has j ↔ s.has j := by
  unfold St.has
  rw [go_len]
theorem go_old (s : St) (k i : Int) (F : Int → Int) (h : s.has i) : (s.go k i F).old i = F (s.old i) := by
  have h' := (go_has s k i i F).2 h
  unfold St.old
  rw [if_pos h', if_pos h]
  unfold St.go
  rw [if_pos h]
  have h2 : i.toNat < s.X.length := by have := h.1; have := h.2; omega
  simp [St.acc, List.getD_eq_getElem?_getD, h2]
theorem go_other (s : St) (k i j : Int) (F : Int → Int) (h : i ≠ j) : (s.go k i F).old j = s.old j := by
  unfold St.old
  by_cases hj : s.has j
  · rw [if_pos hj, if_pos ((go_has s k i j F).2 hj)]
    unfold St.go
    split
    · rename_i hi
      have : i.toNat ≠ j.toNat := by have := hi.1; have := hj.1; omega
      simp [St.acc, List.getD_eq_getElem?_getD, this]
    · rfl
  · rw [if_neg hj, if_neg (fun h => hj ((go_has s k i j F).1 h))]
end Go.Proofs.Ythiiidkkdlmneaa
