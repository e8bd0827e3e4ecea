/-
  awake of the statements on layouts; the keep's Config. (Written by wip/gen_lye.py.)
-/
import Derived.Test.YtffcclgcgiilmaaLyB
import Derived.Test.YtffcclgcgiilmaaLyC
import Derived.Test.YtffcclgcgiilmaaQEq
import Derived.Test.YtffcclgcgiilmaaCfRDec
import Derived.Test.YtffcclgcgiilmaaKeep
namespace Go.Proofs.Ytffcclgcgiilmaa
open Go Go.RowKit

theorem InB.up {w w' : World} {a : Option Addr} {n : Nat} {zs : List Int} (h : InB w w.heap.size a n zs) (hb : Below w.heap.size w w') : InB w' w'.heap.size a n zs := (h.below (Nat.le_refl _) hb).mono hb.size

theorem config_any {w : World} {a : Option Addr} {L : Nat} {zs : List Int} (h : InB w w.heap.size a L zs) (c : Nat) :
    Calls Try.prog 7 #[.slice a L c] w (Decoded zs w) := by
  have H := Lib.hid (h.up (below_one w (.cells zero11 26)))
  have B0 := Lib.hid (below_one w (.cells zero11 26))
  have Z0 := Lib.hid (Blk.made w 26 zero11)
  have hsz : (w.alloc (.cells zero11 26)).heap.size = w.heap.size + 1 := by simp
  clear h
  go_enter Try.func7, Try.ntmps7
  go_wp2_with fail
  (with_reducible refine (rdecode_any H.out c).mono ?_)
  rintro e w1 ⟨v, rfl, hcfg, hb⟩
  obtain ⟨pa, pn, pc, sa, sn, sc, rfl, h1, h2, h3, h4⟩ := hcfg
  obtain ⟨d, hd⟩ : ∃ d, decC (strm zs) = d := ⟨_, rfl⟩
  rw [hd] at h1 h2 h3 h4 ⊢
  have HDD := Lib.hid hd
  have HC := Lib.hid (And.intro h1 (And.intro h2 (And.intro h3 h4)))
  have HS := Lib.hid hsz
  have HB := Lib.hid (B0.out.trans (hb.mono B0.out.size))
  have Z1 := Lib.hid (Z0.out.below hb)
  clear h1 h2 h3 h4 hb hsz hd
  obtain ⟨d0, d1, d2, d3, d4, d5, d6, d7, d8, d9, d10⟩ := (⟨Z1.out.at_ 0, Z1.out.at_ 1, Z1.out.at_ 2, Z1.out.at_ 3, Z1.out.at_ 4, Z1.out.at_ 5, Z1.out.at_ 6, Z1.out.at_ 7, Z1.out.at_ 8, Z1.out.at_ 9, Z1.out.at_ 10⟩ : _ ∧ _ ∧ _ ∧ _ ∧ _ ∧ _ ∧ _ ∧ _ ∧ _ ∧ _ ∧ _)
  obtain ⟨g0, g1, g2, g3, g4, g5, g6, g7, g8, g9, g10⟩ := (⟨Z1.out.free 0, Z1.out.free 1, Z1.out.free 2, Z1.out.free 3, Z1.out.free 4, Z1.out.free 5, Z1.out.free 6, Z1.out.free 7, Z1.out.free 8, Z1.out.free 9, Z1.out.free 10⟩ : _ ∧ _ ∧ _ ∧ _ ∧ _ ∧ _ ∧ _ ∧ _ ∧ _ ∧ _ ∧ _)
  simp only [List.getElem?_toArray, List.getElem?_cons_zero, List.getElem?_cons_succ] at d0 d1 d2 d3 d4 d5 d6 d7 d8 d9 d10
  go_wp2
  have hD := Z1.out.put11 (.int .i64 d.wo) (.int .i64 d.le) (.int .i64 d.cl) (.int .i64 d.ta) (.int .i64 d.de) (.int .i64 d.he) (.int .i64 d.ba) (.int .i64 d.ag) (.int .i64 d.pa) (.slice pa pn pc) (.slice sa sn sc)
  have hF := fr11 w1 w.heap.size (.int .i64 d.wo) (.int .i64 d.le) (.int .i64 d.cl) (.int .i64 d.ta) (.int .i64 d.de) (.int .i64 d.he) (.int .i64 d.ba) (.int .i64 d.ag) (.int .i64 d.pa) (.slice pa pn pc) (.slice sa sn sc)
  refine bodyPost_ret (results_cell_row (P := Try.prog) Try.results7 _ _ w.heap.size 26 _ (0, 0) _ rfl hD Try.underlying26 rfl (by kernel_rfl)) rfl ?_
  obtain ⟨h1, h2, h3, h4⟩ := HC.out
  have hs := HS.out
  have hS : ∀ s, s ∈ [w.heap.size] → s < (w.alloc (.cells zero11 26)).heap.size := fun s hs' => by simp at hs'; omega
  have hS' : ∀ s, s ∈ [w.heap.size] → ¬ (w.alloc (.cells zero11 26)).heap.size ≤ s := fun s hs' => by have := hS s hs'; omega
  have hle : w.heap.size ≤ (w.alloc (.cells zero11 26)).heap.size := by omega
  have k1 := h1.fr hF (fun s hs' => by have := hS s hs'; omega)
  have k2 := h2.fr hF (fun s hs' => by have := hS s hs'; omega)
  obtain ⟨_, pc', e1, hp, _⟩ := k1.form
  obtain ⟨_, sc', e2, hss, _⟩ := k2.form
  cases e1
  cases e2
  unfold Decoded
  rw [HDD.out]
  exact ⟨_, rfl, ⟨pa, _, pc, sa, _, sc, rfl, k1.mono hle, k2.mono hle, hp.mono hle, hss.mono hle⟩, HB.out.trans (hF.below HB.out.size (fun k hk => by simp at hk; omega))⟩

/-- The configuration of the empty byte string. -/
def cfg0 : Cfg := ⟨1, 1, 1, 1, 1, 1, 1, 0, 1, [[]], []⟩
theorem dec_nil : decC (strm []) = cfg0 := by decide

/-- A configuration in block g and its layout in block h. -/
structure LawS (w : World) (g h : Nat) (c : Cfg) (pa : Option Addr) (pn pc : Nat) (sa : Option Addr) (sn sc : Nat) (u : World) : Prop where
  x : Blk u g 26 (cc c pa pn pc sa sn sc)
  l : Blk u h 30 (lcells c)
  b : Below w.heap.size w u
section
variable {w : World} {g h : Nat} {c : Cfg} {pa sa : Option Addr} {pn pc sn sc : Nat}
theorem LawS.below {u u' : World} (s : LawS w g h c pa pn pc sa sn sc u) (b : Below u.heap.size u u') : LawS w g h c pa pn pc sa sn sc u' := ⟨s.x.below b, s.l.below b, s.b.trans (b.mono s.b.size)⟩
theorem LawS.alloc {u : World} (s : LawS w g h c pa pn pc sa sn sc u) (o : Obj) : LawS w g h c pa pn pc sa sn sc (u.alloc o) := s.below (below_one u o)
theorem LawS.drew {u : World} (s : LawS w g h c pa pn pc sa sn sc u) : LawS w g h c pa pn pc sa sn sc u.drew := s.below (below_drew (Below.refl _ _))
end

set_option maxRecDepth 20000 in
set_option maxHeartbeats 4000000 in
theorem awake_any (w : World) : Calls Try.prog 9 #[] w (Gives (.bool true) w) := by
  have hck : chk cfg0 = 0 := by rw [← dec_nil]; exact chk_dec _
  have HIN := Lib.hid (cfgIn_chk hck)
  have HC := Lib.hid hck
  have V0 := Lib.hid (show rCells cfg0 = 16 by decide)
  have V1 := Lib.hid (show rSlot cfg0 0 = 4 by decide)
  have V2 := Lib.hid (show rQueue cfg0 0 0 = (8, 9, 10, 1) by decide)
  have V3 := Lib.hid (show rTask cfg0 0 0 = 11 by decide)
  have hq : ∀ u, (Op.equalIn 10000 44 (.agg (qcells 8 9 10 1)) (.agg (qcells 8 9 10 1))).run Try.prog u = .ok true u := fun u => que_eq (8, 9, 10, 1) (8, 9, 10, 1) u
  clear hck
  go_enter Try.func9, Try.ntmps9
  go_wp2_with fail
  (with_reducible refine (config_any (inB_nil w w.heap.size none) 0).mono ?_)
  rintro e w1 ⟨v, rfl, hcfg, hb⟩
  rw [dec_nil] at hcfg
  obtain ⟨pa, pn, pc, sa, sn, sc, rfl, hl⟩ := hcfg.isCfg
  have HL := Lib.hid hl
  have B1 := Lib.hid hb
  clear hl hb hcfg
  go_wp2_with fail
  (with_reducible refine (new_any HL.out _ _).mono ?_)
  rintro e w2 ⟨rfl, hb⟩
  rw [if_pos HC.out, HC.out]
  have B2 := Lib.hid (B1.out.trans (hb.mono B1.out.size))
  clear hb HL B1
  go_upto_region 2 with fail
  have X3 := Lib.hid (Blk.made w2 30 (lcells cfg0))
  have B3 := Lib.hid (B2.out.alloc B2.out.size (.cells (lcells cfg0) 30))
  generalize w2.alloc (.cells (lcells cfg0) 30) = W3 at *
  generalize w2.heap.size = h at *
  obtain ⟨e0, e1, e2, e3, e4, e5, e6, e7, e8⟩ := (⟨X3.out.at_ 0, X3.out.at_ 1, X3.out.at_ 2, X3.out.at_ 3, X3.out.at_ 4, X3.out.at_ 5, X3.out.at_ 6, X3.out.at_ 7, X3.out.at_ 8⟩ : _ ∧ _ ∧ _ ∧ _ ∧ _ ∧ _ ∧ _ ∧ _ ∧ _)
  simp only [List.getElem?_toArray, List.getElem?_cons_zero, List.getElem?_cons_succ] at e0 e1 e2 e3 e4 e5 e6 e7 e8
  go_wp2_with fail
  (with_reducible refine (lcells_any).mono ?_)
  rintro e w4 ⟨rfl, hb⟩
  rw [V0.out]
  have X4 := Lib.hid (X3.out.below hb)
  have B4 := Lib.hid (B3.out.trans (hb.mono B3.out.size))
  clear hb X3 B3 e0 e1 e2 e3 e4 e5 e6 e7 e8
  obtain ⟨e0, e1, e2, e3, e4, e5, e6, e7, e8⟩ := (⟨X4.out.at_ 0, X4.out.at_ 1, X4.out.at_ 2, X4.out.at_ 3, X4.out.at_ 4, X4.out.at_ 5, X4.out.at_ 6, X4.out.at_ 7, X4.out.at_ 8⟩ : _ ∧ _ ∧ _ ∧ _ ∧ _ ∧ _ ∧ _ ∧ _ ∧ _)
  simp only [List.getElem?_toArray, List.getElem?_cons_zero, List.getElem?_cons_succ] at e0 e1 e2 e3 e4 e5 e6 e7 e8
  go_wp2_with fail
  (with_reducible refine (lslot_any HIN.out _).mono ?_)
  rintro e w5 ⟨rfl, hb⟩
  rw [V1.out]
  have X5 := Lib.hid (X4.out.below hb)
  have B5 := Lib.hid (B4.out.trans (hb.mono B4.out.size))
  clear hb X4 B4 e0 e1 e2 e3 e4 e5 e6 e7 e8
  obtain ⟨e0, e1, e2, e3, e4, e5, e6, e7, e8⟩ := (⟨X5.out.at_ 0, X5.out.at_ 1, X5.out.at_ 2, X5.out.at_ 3, X5.out.at_ 4, X5.out.at_ 5, X5.out.at_ 6, X5.out.at_ 7, X5.out.at_ 8⟩ : _ ∧ _ ∧ _ ∧ _ ∧ _ ∧ _ ∧ _ ∧ _ ∧ _)
  simp only [List.getElem?_toArray, List.getElem?_cons_zero, List.getElem?_cons_succ] at e0 e1 e2 e3 e4 e5 e6 e7 e8
  go_wp2_with fail
  (with_reducible refine (lqueue_any HIN.out _ _).mono ?_)
  rintro e w6 ⟨rfl, hb⟩
  rw [V2.out]
  have X6 := Lib.hid (X5.out.below hb)
  have B6 := Lib.hid (B5.out.trans (hb.mono B5.out.size))
  clear hb X5 B5 e0 e1 e2 e3 e4 e5 e6 e7 e8
  obtain ⟨e0, e1, e2, e3, e4, e5, e6, e7, e8⟩ := (⟨X6.out.at_ 0, X6.out.at_ 1, X6.out.at_ 2, X6.out.at_ 3, X6.out.at_ 4, X6.out.at_ 5, X6.out.at_ 6, X6.out.at_ 7, X6.out.at_ 8⟩ : _ ∧ _ ∧ _ ∧ _ ∧ _ ∧ _ ∧ _ ∧ _ ∧ _)
  simp only [List.getElem?_toArray, List.getElem?_cons_zero, List.getElem?_cons_succ] at e0 e1 e2 e3 e4 e5 e6 e7 e8
  go_wp2_with fail
  (with_reducible refine (lstate_any HIN.out _).mono ?_)
  rintro e w7 ⟨rfl, hb⟩
  rw [V3.out]
  have X7 := Lib.hid (X6.out.below hb)
  have B7 := Lib.hid (B6.out.trans (hb.mono B6.out.size))
  clear hb X6 B6 e0 e1 e2 e3 e4 e5 e6 e7 e8
  go_wp2
  go_ret
  exact ⟨rfl, B7.out⟩
end Go.Proofs.Ytffcclgcgiilmaa
