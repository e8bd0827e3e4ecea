/-
  The keep's Config. (Written by wip/gen_lye.py.)
-/
import Derived.Test.YtpmdmeolehabjaaCfRDec
import Derived.Test.YtpmdmeolehabjaaKeep
namespace Go.Proofs.Ytpmdmeolehabjaa
open Go Go.RowKit

theorem InB.up {w w' : World} {a : Option Addr} {n : Nat} {zs : List Int} (h : InB w w.heap.size a n zs) (hb : Below w.heap.size w w') : InB w' w'.heap.size a n zs := (h.below (Nat.le_refl _) hb).mono hb.size

theorem config_any {w : World} {a : Option Addr} {L : Nat} {zs : List Int} (h : InB w w.heap.size a L zs) (c : Nat) :
    Calls Try.prog 6 #[.slice a L c] w (Decoded zs w) := by
  have H := Lib.hid (h.up (below_one w (.cells zero11 25)))
  have B0 := Lib.hid (below_one w (.cells zero11 25))
  have Z0 := Lib.hid (Blk.made w 25 zero11)
  have hsz : (w.alloc (.cells zero11 25)).heap.size = w.heap.size + 1 := by simp
  clear h
  go_enter Try.func6, Try.ntmps6
  go_wp2_with fail
  (with_reducible refine (rdecode_any H.out c).mono ?_)
  rintro e w1 ⟨v, rfl, hcfg, hb⟩
  obtain ⟨pa, pn, pc, sa, sn, sc, rfl, h1, h2, h3, h4⟩ := hcfg
  obtain ⟨d, hd⟩ : ∃ d, decC (strm zs) = d := ⟨_, rfl⟩
  rw [hd] at h1 h2 h3 h4 ⊢
  have HDD := Lib.hid hd
  have HC := Lib.hid (And.intro h1 (And.intro h2 (And.intro h3 h4)))
  have HS := Lib.hid hsz
  have HB := Lib.hid (B0.out.trans (hb.mono B0.out.size))
  have Z1 := Lib.hid (Z0.out.below hb)
  clear h1 h2 h3 h4 hb hsz hd
  obtain ⟨d0, d1, d2, d3, d4, d5, d6, d7, d8, d9, d10⟩ := (⟨Z1.out.at_ 0, Z1.out.at_ 1, Z1.out.at_ 2, Z1.out.at_ 3, Z1.out.at_ 4, Z1.out.at_ 5, Z1.out.at_ 6, Z1.out.at_ 7, Z1.out.at_ 8, Z1.out.at_ 9, Z1.out.at_ 10⟩ : _ ∧ _ ∧ _ ∧ _ ∧ _ ∧ _ ∧ _ ∧ _ ∧ _ ∧ _ ∧ _)
  obtain ⟨g0, g1, g2, g3, g4, g5, g6, g7, g8, g9, g10⟩ := (⟨Z1.out.free 0, Z1.out.free 1, Z1.out.free 2, Z1.out.free 3, Z1.out.free 4, Z1.out.free 5, Z1.out.free 6, Z1.out.free 7, Z1.out.free 8, Z1.out.free 9, Z1.out.free 10⟩ : _ ∧ _ ∧ _ ∧ _ ∧ _ ∧ _ ∧ _ ∧ _ ∧ _ ∧ _ ∧ _)
  simp only [List.getElem?_toArray, List.getElem?_cons_zero, List.getElem?_cons_succ] at d0 d1 d2 d3 d4 d5 d6 d7 d8 d9 d10
  go_wp2
  have hD := Z1.out.put11 (.int .i64 d.wo) (.int .i64 d.le) (.int .i64 d.cl) (.int .i64 d.ta) (.int .i64 d.de) (.int .i64 d.he) (.int .i64 d.ba) (.int .i64 d.ag) (.int .i64 d.pa) (.slice pa pn pc) (.slice sa sn sc)
  have hF := fr11 w1 w.heap.size (.int .i64 d.wo) (.int .i64 d.le) (.int .i64 d.cl) (.int .i64 d.ta) (.int .i64 d.de) (.int .i64 d.he) (.int .i64 d.ba) (.int .i64 d.ag) (.int .i64 d.pa) (.slice pa pn pc) (.slice sa sn sc)
  refine bodyPost_ret (results_cell_row (P := Try.prog) Try.results6 _ _ w.heap.size 25 _ (0, 0) _ rfl hD Try.underlying25 rfl (by kernel_rfl)) rfl ?_
  obtain ⟨h1, h2, h3, h4⟩ := HC.out
  have hs := HS.out
  have hS : ∀ s, s ∈ [w.heap.size] → s < (w.alloc (.cells zero11 25)).heap.size := fun s hs' => by simp at hs'; omega
  have hS' : ∀ s, s ∈ [w.heap.size] → ¬ (w.alloc (.cells zero11 25)).heap.size ≤ s := fun s hs' => by have := hS s hs'; omega
  have hle : w.heap.size ≤ (w.alloc (.cells zero11 25)).heap.size := by omega
  have k1 := h1.fr hF (fun s hs' => by have := hS s hs'; omega)
  have k2 := h2.fr hF (fun s hs' => by have := hS s hs'; omega)
  obtain ⟨_, pc', e1, hp, _⟩ := k1.form
  obtain ⟨_, sc', e2, hss, _⟩ := k2.form
  cases e1
  cases e2
  unfold Decoded
  rw [HDD.out]
  exact ⟨_, rfl, ⟨pa, _, pc, sa, _, sc, rfl, k1.mono hle, k2.mono hle, hp.mono hle, hss.mono hle⟩, HB.out.trans (hF.below HB.out.size (fun k hk => by simp at hk; omega))⟩

end Go.Proofs.Ytpmdmeolehabjaa
