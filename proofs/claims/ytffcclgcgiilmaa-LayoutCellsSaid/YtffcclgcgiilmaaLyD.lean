/-
  The law's function cells: all methods give the cells of the reference. (Written by wip/gen_lyd.py.)
-/
import Derived.Test.YtffcclgcgiilmaaLyC
import Derived.Test.YtffcclgcgiilmaaQEq
namespace Go.Proofs.Ytffcclgcgiilmaa
open Go Go.RowKit
set_option linter.unusedSimpArgs false

/-- A configuration and a layout beside one another. -/
structure CelS (w : World) (c : Cfg) (pa : Option Addr) (pn pc : Nat) (sa : Option Addr) (sn sc : Nat) (u : World) : Prop where
  x : Blk u w.heap.size 26 (cc c pa pn pc sa sn sc)
  l : Blk u (w.heap.size + 1) 30 (lcells c)
  b : Below w.heap.size w u

section
variable {w : World} {c : Cfg} {pa sa : Option Addr} {pn pc sn sc : Nat}
theorem CelS.below {u u' : World} (h : CelS w c pa pn pc sa sn sc u) (b : Below u.heap.size u u') : CelS w c pa pn pc sa sn sc u' := ⟨h.x.below b, h.l.below b, h.b.trans (b.mono h.b.size)⟩
theorem CelS.drew {u : World} (h : CelS w c pa pn pc sa sn sc u) : CelS w c pa pn pc sa sn sc u.drew := h.below (below_drew (Below.refl _ _))
theorem CelS.first : CelS w c pa pn pc sa sn sc ((w.alloc (cbox c pa pn pc sa sn sc)).alloc (lbox c)) := by
  have hw1 : (w.alloc (cbox c pa pn pc sa sn sc)).heap.size = w.heap.size + 1 := by simp
  have hR := Blk.made (w.alloc (cbox c pa pn pc sa sn sc)) 30 (lcells c)
  rw [hw1] at hR
  exact ⟨(Blk.made w 26 (cc c pa pn pc sa sn sc)).alloc _, hR, (below_one w _).alloc (by simp) _⟩

set_option maxRecDepth 20000 in
set_option maxHeartbeats 16000000 in
theorem cells_any (hin : CfgIn c) (a b : Int) : Calls Try.prog 10 #[cv c pa pn pc sa sn sc, lv c, .int .i64 a, .int .i64 b] w (Gives (.bool true) w) := by
  have H0 := Lib.hid (CelS.first (w := w) (c := c) (pa := pa) (pn := pn) (pc := pc) (sa := sa) (sn := sn) (sc := sc))
  have HIN := Lib.hid hin
  clear hin
  go_enter Try.func10, Try.ntmps10
  go_wp2_with fail
  generalize (w.alloc (cbox c pa pn pc sa sn sc)).alloc (lbox c) = W at *
  refine wp_region_seq (S := CelS w c pa pn pc sa sn sc) [0, 1, 2, 3, 4, 5, 6, 7, 8, 9, 10, 11, 12, 13, 14, 15, 16, 17, 18, 19, 20, 21, 22, 23, 24] (by kernel_rfl) (by kernel_rfl) (by kernel_rfl) (by kernel_rfl) (by kernel_rfl) H0.out.drew ?_
  refine SeqS.valD (v := .agg (lcells c)) 9 rfl (by kernel_rfl) (yields_row (by kernel_rfl) _ _ rfl (w.heap.size + 1) (by kernel_rfl) 30 _ (fun u hu => hu.l) _ Try.underlying30 rfl (by kernel_rfl)) ?_
  simp only [List.setIfInBounds_toArray, List.set_cons_zero, List.set_cons_succ]
  refine SeqS.callD 10 (.int .i64 (rCells c)) rfl (by kernel_rfl) (by kernel_rfl) (fun u hu K hK => ?_) ?_
  · go_simp
    go_at_call 13
    (with_reducible refine (lcells_any).mono ?_)
    rintro e u1 ⟨rfl, b⟩
    exact hK.out _ _ (by kernel_rfl) (hu.below b)
  simp only [List.setIfInBounds_toArray, List.set_cons_zero, List.set_cons_succ]
  refine SeqS.valD (v := .agg (cc c pa pn pc sa sn sc)) 11 rfl (by kernel_rfl) (yields_row (by kernel_rfl) _ _ rfl w.heap.size (by kernel_rfl) 26 _ (fun u hu => hu.x) _ Try.underlying26 rfl (by kernel_rfl)) ?_
  simp only [List.setIfInBounds_toArray, List.set_cons_zero, List.set_cons_succ]
  refine SeqS.callD 12 (.int .i64 (rCells c)) rfl (by kernel_rfl) (by kernel_rfl) (fun u hu K hK => ?_) ?_
  · go_simp
    go_at_call 14
    (with_reducible refine (rcells_any HIN.out).mono ?_)
    rintro e u1 ⟨rfl, b⟩
    exact hK.out _ _ (by kernel_rfl) (hu.below b)
  simp only [List.setIfInBounds_toArray, List.set_cons_zero, List.set_cons_succ]
  refine SeqS.valD (v := .bool false) 13 rfl (by kernel_rfl) (Or.inl ⟨by kernel_rfl, fun u hu => by (go_simp)⟩) ?_
  simp only [List.setIfInBounds_toArray, List.set_cons_zero, List.set_cons_succ]
  refine SeqS.valD (v := .bool false) 14 rfl (by kernel_rfl) (Or.inl ⟨by kernel_rfl, fun u hu => by (go_simp)⟩) ?_
  simp only [List.setIfInBounds_toArray, List.set_cons_zero, List.set_cons_succ]
  refine SeqS.valD (v := .agg (lcells c)) 15 rfl (by kernel_rfl) (yields_row (by kernel_rfl) _ _ rfl (w.heap.size + 1) (by kernel_rfl) 30 _ (fun u hu => hu.l) _ Try.underlying30 rfl (by kernel_rfl)) ?_
  simp only [List.setIfInBounds_toArray, List.set_cons_zero, List.set_cons_succ]
  refine SeqS.callD 16 (.int .i64 0) rfl (by kernel_rfl) (by kernel_rfl) (fun u hu K hK => ?_) ?_
  · go_simp
    go_at_call 15
    (with_reducible refine (lnext_any).mono ?_)
    rintro e u1 ⟨rfl, b⟩
    exact hK.out _ _ (by kernel_rfl) (hu.below b)
  simp only [List.setIfInBounds_toArray, List.set_cons_zero, List.set_cons_succ]
  refine SeqS.valD (v := .bool false) 17 rfl (by kernel_rfl) (Or.inl ⟨by kernel_rfl, fun u hu => by (go_simp)⟩) ?_
  simp only [List.setIfInBounds_toArray, List.set_cons_zero, List.set_cons_succ]
  refine SeqS.valD (v := .bool false) 18 rfl (by kernel_rfl) (Or.inl ⟨by kernel_rfl, fun u hu => by (go_simp)⟩) ?_
  simp only [List.setIfInBounds_toArray, List.set_cons_zero, List.set_cons_succ]
  refine SeqS.valD (v := .bool false) 19 rfl (by kernel_rfl) (Or.inl ⟨by kernel_rfl, fun u hu => by (go_simp)⟩) ?_
  simp only [List.setIfInBounds_toArray, List.set_cons_zero, List.set_cons_succ]
  refine SeqS.valD (v := .agg (lcells c)) 20 rfl (by kernel_rfl) (yields_row (by kernel_rfl) _ _ rfl (w.heap.size + 1) (by kernel_rfl) 30 _ (fun u hu => hu.l) _ Try.underlying30 rfl (by kernel_rfl)) ?_
  simp only [List.setIfInBounds_toArray, List.set_cons_zero, List.set_cons_succ]
  refine SeqS.callD 21 (.int .i64 1) rfl (by kernel_rfl) (by kernel_rfl) (fun u hu K hK => ?_) ?_
  · go_simp
    go_at_call 16
    (with_reducible refine (llock_any).mono ?_)
    rintro e u1 ⟨rfl, b⟩
    exact hK.out _ _ (by kernel_rfl) (hu.below b)
  simp only [List.setIfInBounds_toArray, List.set_cons_zero, List.set_cons_succ]
  refine SeqS.valD (v := .bool false) 22 rfl (by kernel_rfl) (Or.inl ⟨by kernel_rfl, fun u hu => by (go_simp)⟩) ?_
  simp only [List.setIfInBounds_toArray, List.set_cons_zero, List.set_cons_succ]
  refine SeqS.valD (v := .bool false) 23 rfl (by kernel_rfl) (Or.inl ⟨by kernel_rfl, fun u hu => by (go_simp)⟩) ?_
  simp only [List.setIfInBounds_toArray, List.set_cons_zero, List.set_cons_succ]
  refine SeqS.valD (v := .bool false) 24 rfl (by kernel_rfl) (Or.inl ⟨by kernel_rfl, fun u hu => by (go_simp)⟩) ?_
  simp only [List.setIfInBounds_toArray, List.set_cons_zero, List.set_cons_succ]
  refine SeqS.valD (v := .agg (lcells c)) 25 rfl (by kernel_rfl) (yields_row (by kernel_rfl) _ _ rfl (w.heap.size + 1) (by kernel_rfl) 30 _ (fun u hu => hu.l) _ Try.underlying30 rfl (by kernel_rfl)) ?_
  simp only [List.setIfInBounds_toArray, List.set_cons_zero, List.set_cons_succ]
  refine SeqS.callD 26 (.int .i64 2) rfl (by kernel_rfl) (by kernel_rfl) (fun u hu K hK => ?_) ?_
  · go_simp
    go_at_call 17
    (with_reducible refine (lsize_any).mono ?_)
    rintro e u1 ⟨rfl, b⟩
    exact hK.out _ _ (by kernel_rfl) (hu.below b)
  simp only [List.setIfInBounds_toArray, List.set_cons_zero, List.set_cons_succ]
  refine SeqS.valD (v := .bool false) 27 rfl (by kernel_rfl) (Or.inl ⟨by kernel_rfl, fun u hu => by (go_simp)⟩) ?_
  simp only [List.setIfInBounds_toArray, List.set_cons_zero, List.set_cons_succ]
  refine SeqS.valD (v := .bool false) 28 rfl (by kernel_rfl) (Or.inl ⟨by kernel_rfl, fun u hu => by (go_simp)⟩) ?_
  simp only [List.setIfInBounds_toArray, List.set_cons_zero, List.set_cons_succ]
  refine SeqS.valD (v := .bool false) 29 rfl (by kernel_rfl) (Or.inl ⟨by kernel_rfl, fun u hu => by (go_simp)⟩) ?_
  simp only [List.setIfInBounds_toArray, List.set_cons_zero, List.set_cons_succ]
  refine SeqS.valD (v := .agg (lcells c)) 30 rfl (by kernel_rfl) (yields_row (by kernel_rfl) _ _ rfl (w.heap.size + 1) (by kernel_rfl) 30 _ (fun u hu => hu.l) _ Try.underlying30 rfl (by kernel_rfl)) ?_
  simp only [List.setIfInBounds_toArray, List.set_cons_zero, List.set_cons_succ]
  refine SeqS.callD 31 (.int .i64 3) rfl (by kernel_rfl) (by kernel_rfl) (fun u hu K hK => ?_) ?_
  · go_simp
    go_at_call 18
    (with_reducible refine (larrival_any).mono ?_)
    rintro e u1 ⟨rfl, b⟩
    exact hK.out _ _ (by kernel_rfl) (hu.below b)
  simp only [List.setIfInBounds_toArray, List.set_cons_zero, List.set_cons_succ]
  refine SeqS.valD (v := .bool false) 32 rfl (by kernel_rfl) (Or.inl ⟨by kernel_rfl, fun u hu => by (go_simp)⟩) ?_
  simp only [List.setIfInBounds_toArray, List.set_cons_zero, List.set_cons_succ]
  refine SeqS.valD (v := .bool false) 33 rfl (by kernel_rfl) (Or.inl ⟨by kernel_rfl, fun u hu => by (go_simp)⟩) ?_
  simp only [List.setIfInBounds_toArray, List.set_cons_zero, List.set_cons_succ]
  refine SeqS.done ?_
  intro W1 hW
  have H1 := Lib.hid hW
  clear hW H0
  go_wp2_with fail
  refine wp_region_seq (S := CelS w c pa pn pc sa sn sc) [0, 1, 2, 3, 4, 5, 6, 7, 8, 9, 10, 11, 12, 13, 14, 15, 16, 17, 18, 19, 20, 21, 22, 23, 24, 25, 26, 27, 28, 29, 30, 31, 32, 33, 34, 35, 36, 37, 38, 39, 40, 41, 42, 43, 44] (by kernel_rfl) (by kernel_rfl) (by kernel_rfl) (by kernel_rfl) (by kernel_rfl) H1.out.drew ?_
  refine SeqS.valD (v := .agg (lcells c)) 34 rfl (by kernel_rfl) (yields_row (by kernel_rfl) _ _ rfl (w.heap.size + 1) (by kernel_rfl) 30 _ (fun u hu => hu.l) _ Try.underlying30 rfl (by kernel_rfl)) ?_
  simp only [List.setIfInBounds_toArray, List.set_cons_zero, List.set_cons_succ]
  refine SeqS.valD (v := .int .i64 a) 35 rfl (by kernel_rfl) (Or.inl ⟨by kernel_rfl, fun u hu => by (go_simp)⟩) ?_
  simp only [List.setIfInBounds_toArray, List.set_cons_zero, List.set_cons_succ]
  refine SeqS.callD 36 (.int .i64 (rSlot c a)) rfl (by kernel_rfl) (by kernel_rfl) (fun u hu K hK => ?_) ?_
  · go_simp
    go_at_call 19
    (with_reducible refine (lslot_any HIN.out _).mono ?_)
    rintro e u1 ⟨rfl, b⟩
    exact hK.out _ _ (by kernel_rfl) (hu.below b)
  simp only [List.setIfInBounds_toArray, List.set_cons_zero, List.set_cons_succ]
  refine SeqS.valD (v := .agg (cc c pa pn pc sa sn sc)) 37 rfl (by kernel_rfl) (yields_row (by kernel_rfl) _ _ rfl w.heap.size (by kernel_rfl) 26 _ (fun u hu => hu.x) _ Try.underlying26 rfl (by kernel_rfl)) ?_
  simp only [List.setIfInBounds_toArray, List.set_cons_zero, List.set_cons_succ]
  refine SeqS.valD (v := .int .i64 a) 38 rfl (by kernel_rfl) (Or.inl ⟨by kernel_rfl, fun u hu => by (go_simp)⟩) ?_
  simp only [List.setIfInBounds_toArray, List.set_cons_zero, List.set_cons_succ]
  refine SeqS.callD 39 (.int .i64 (rSlot c a)) rfl (by kernel_rfl) (by kernel_rfl) (fun u hu K hK => ?_) ?_
  · go_simp
    go_at_call 32
    (with_reducible refine (slot_any HIN.out _).mono ?_)
    rintro e u1 ⟨rfl, b⟩
    exact hK.out _ _ (by kernel_rfl) (hu.below b)
  simp only [List.setIfInBounds_toArray, List.set_cons_zero, List.set_cons_succ]
  refine SeqS.valD (v := .bool false) 40 rfl (by kernel_rfl) (Or.inl ⟨by kernel_rfl, fun u hu => by (go_simp)⟩) ?_
  simp only [List.setIfInBounds_toArray, List.set_cons_zero, List.set_cons_succ]
  refine SeqS.valD (v := .bool false) 41 rfl (by kernel_rfl) (Or.inl ⟨by kernel_rfl, fun u hu => by (go_simp)⟩) ?_
  simp only [List.setIfInBounds_toArray, List.set_cons_zero, List.set_cons_succ]
  refine SeqS.valD (v := .agg (lcells c)) 42 rfl (by kernel_rfl) (yields_row (by kernel_rfl) _ _ rfl (w.heap.size + 1) (by kernel_rfl) 30 _ (fun u hu => hu.l) _ Try.underlying30 rfl (by kernel_rfl)) ?_
  simp only [List.setIfInBounds_toArray, List.set_cons_zero, List.set_cons_succ]
  refine SeqS.valD (v := .int .i64 a) 43 rfl (by kernel_rfl) (Or.inl ⟨by kernel_rfl, fun u hu => by (go_simp)⟩) ?_
  simp only [List.setIfInBounds_toArray, List.set_cons_zero, List.set_cons_succ]
  refine SeqS.callD 44 (.int .i64 (rSleepers c a)) rfl (by kernel_rfl) (by kernel_rfl) (fun u hu K hK => ?_) ?_
  · go_simp
    go_at_call 20
    (with_reducible refine (lsleepers_any HIN.out _).mono ?_)
    rintro e u1 ⟨rfl, b⟩
    exact hK.out _ _ (by kernel_rfl) (hu.below b)
  simp only [List.setIfInBounds_toArray, List.set_cons_zero, List.set_cons_succ]
  refine SeqS.valD (v := .agg (cc c pa pn pc sa sn sc)) 45 rfl (by kernel_rfl) (yields_row (by kernel_rfl) _ _ rfl w.heap.size (by kernel_rfl) 26 _ (fun u hu => hu.x) _ Try.underlying26 rfl (by kernel_rfl)) ?_
  simp only [List.setIfInBounds_toArray, List.set_cons_zero, List.set_cons_succ]
  refine SeqS.valD (v := .int .i64 a) 46 rfl (by kernel_rfl) (Or.inl ⟨by kernel_rfl, fun u hu => by (go_simp)⟩) ?_
  simp only [List.setIfInBounds_toArray, List.set_cons_zero, List.set_cons_succ]
  refine SeqS.callD 47 (.int .i64 (rSleepers c a)) rfl (by kernel_rfl) (by kernel_rfl) (fun u hu K hK => ?_) ?_
  · go_simp
    go_at_call 33
    (with_reducible refine (sleepers_any HIN.out _).mono ?_)
    rintro e u1 ⟨rfl, b⟩
    exact hK.out _ _ (by kernel_rfl) (hu.below b)
  simp only [List.setIfInBounds_toArray, List.set_cons_zero, List.set_cons_succ]
  refine SeqS.valD (v := .bool false) 48 rfl (by kernel_rfl) (Or.inl ⟨by kernel_rfl, fun u hu => by (go_simp)⟩) ?_
  simp only [List.setIfInBounds_toArray, List.set_cons_zero, List.set_cons_succ]
  refine SeqS.valD (v := .bool false) 49 rfl (by kernel_rfl) (Or.inl ⟨by kernel_rfl, fun u hu => by (go_simp)⟩) ?_
  simp only [List.setIfInBounds_toArray, List.set_cons_zero, List.set_cons_succ]
  refine SeqS.valD (v := .bool false) 50 rfl (by kernel_rfl) (Or.inl ⟨by kernel_rfl, fun u hu => by (go_simp)⟩) ?_
  simp only [List.setIfInBounds_toArray, List.set_cons_zero, List.set_cons_succ]
  refine SeqS.valD (v := .agg (lcells c)) 51 rfl (by kernel_rfl) (yields_row (by kernel_rfl) _ _ rfl (w.heap.size + 1) (by kernel_rfl) 30 _ (fun u hu => hu.l) _ Try.underlying30 rfl (by kernel_rfl)) ?_
  simp only [List.setIfInBounds_toArray, List.set_cons_zero, List.set_cons_succ]
  refine SeqS.valD (v := .int .i64 a) 52 rfl (by kernel_rfl) (Or.inl ⟨by kernel_rfl, fun u hu => by (go_simp)⟩) ?_
  simp only [List.setIfInBounds_toArray, List.set_cons_zero, List.set_cons_succ]
  refine SeqS.callD 53 (.int .i64 (rEpoch c a)) rfl (by kernel_rfl) (by kernel_rfl) (fun u hu K hK => ?_) ?_
  · go_simp
    go_at_call 21
    (with_reducible refine (lepoch_any HIN.out _).mono ?_)
    rintro e u1 ⟨rfl, b⟩
    exact hK.out _ _ (by kernel_rfl) (hu.below b)
  simp only [List.setIfInBounds_toArray, List.set_cons_zero, List.set_cons_succ]
  refine SeqS.valD (v := .agg (cc c pa pn pc sa sn sc)) 54 rfl (by kernel_rfl) (yields_row (by kernel_rfl) _ _ rfl w.heap.size (by kernel_rfl) 26 _ (fun u hu => hu.x) _ Try.underlying26 rfl (by kernel_rfl)) ?_
  simp only [List.setIfInBounds_toArray, List.set_cons_zero, List.set_cons_succ]
  refine SeqS.valD (v := .int .i64 a) 55 rfl (by kernel_rfl) (Or.inl ⟨by kernel_rfl, fun u hu => by (go_simp)⟩) ?_
  simp only [List.setIfInBounds_toArray, List.set_cons_zero, List.set_cons_succ]
  refine SeqS.callD 56 (.int .i64 (rEpoch c a)) rfl (by kernel_rfl) (by kernel_rfl) (fun u hu K hK => ?_) ?_
  · go_simp
    go_at_call 34
    (with_reducible refine (epoch_any HIN.out _).mono ?_)
    rintro e u1 ⟨rfl, b⟩
    exact hK.out _ _ (by kernel_rfl) (hu.below b)
  simp only [List.setIfInBounds_toArray, List.set_cons_zero, List.set_cons_succ]
  refine SeqS.valD (v := .bool false) 57 rfl (by kernel_rfl) (Or.inl ⟨by kernel_rfl, fun u hu => by (go_simp)⟩) ?_
  simp only [List.setIfInBounds_toArray, List.set_cons_zero, List.set_cons_succ]
  refine SeqS.valD (v := .bool false) 58 rfl (by kernel_rfl) (Or.inl ⟨by kernel_rfl, fun u hu => by (go_simp)⟩) ?_
  simp only [List.setIfInBounds_toArray, List.set_cons_zero, List.set_cons_succ]
  refine SeqS.valD (v := .bool false) 59 rfl (by kernel_rfl) (Or.inl ⟨by kernel_rfl, fun u hu => by (go_simp)⟩) ?_
  simp only [List.setIfInBounds_toArray, List.set_cons_zero, List.set_cons_succ]
  refine SeqS.valD (v := .agg (lcells c)) 60 rfl (by kernel_rfl) (yields_row (by kernel_rfl) _ _ rfl (w.heap.size + 1) (by kernel_rfl) 30 _ (fun u hu => hu.l) _ Try.underlying30 rfl (by kernel_rfl)) ?_
  simp only [List.setIfInBounds_toArray, List.set_cons_zero, List.set_cons_succ]
  refine SeqS.valD (v := .int .i64 a) 61 rfl (by kernel_rfl) (Or.inl ⟨by kernel_rfl, fun u hu => by (go_simp)⟩) ?_
  simp only [List.setIfInBounds_toArray, List.set_cons_zero, List.set_cons_succ]
  refine SeqS.callD 62 (.int .i64 (rBitmap c a)) rfl (by kernel_rfl) (by kernel_rfl) (fun u hu K hK => ?_) ?_
  · go_simp
    go_at_call 22
    (with_reducible refine (lbitmap_any HIN.out _).mono ?_)
    rintro e u1 ⟨rfl, b⟩
    exact hK.out _ _ (by kernel_rfl) (hu.below b)
  simp only [List.setIfInBounds_toArray, List.set_cons_zero, List.set_cons_succ]
  refine SeqS.valD (v := .agg (cc c pa pn pc sa sn sc)) 63 rfl (by kernel_rfl) (yields_row (by kernel_rfl) _ _ rfl w.heap.size (by kernel_rfl) 26 _ (fun u hu => hu.x) _ Try.underlying26 rfl (by kernel_rfl)) ?_
  simp only [List.setIfInBounds_toArray, List.set_cons_zero, List.set_cons_succ]
  refine SeqS.valD (v := .int .i64 a) 64 rfl (by kernel_rfl) (Or.inl ⟨by kernel_rfl, fun u hu => by (go_simp)⟩) ?_
  simp only [List.setIfInBounds_toArray, List.set_cons_zero, List.set_cons_succ]
  refine SeqS.callD 65 (.int .i64 (rBitmap c a)) rfl (by kernel_rfl) (by kernel_rfl) (fun u hu K hK => ?_) ?_
  · go_simp
    go_at_call 35
    (with_reducible refine (bitmap_any HIN.out _).mono ?_)
    rintro e u1 ⟨rfl, b⟩
    exact hK.out _ _ (by kernel_rfl) (hu.below b)
  simp only [List.setIfInBounds_toArray, List.set_cons_zero, List.set_cons_succ]
  refine SeqS.valD (v := .bool false) 66 rfl (by kernel_rfl) (Or.inl ⟨by kernel_rfl, fun u hu => by (go_simp)⟩) ?_
  simp only [List.setIfInBounds_toArray, List.set_cons_zero, List.set_cons_succ]
  refine SeqS.valD (v := .bool false) 67 rfl (by kernel_rfl) (Or.inl ⟨by kernel_rfl, fun u hu => by (go_simp)⟩) ?_
  simp only [List.setIfInBounds_toArray, List.set_cons_zero, List.set_cons_succ]
  refine SeqS.valD (v := .bool false) 68 rfl (by kernel_rfl) (Or.inl ⟨by kernel_rfl, fun u hu => by (go_simp)⟩) ?_
  simp only [List.setIfInBounds_toArray, List.set_cons_zero, List.set_cons_succ]
  refine SeqS.valD (v := .agg (lcells c)) 69 rfl (by kernel_rfl) (yields_row (by kernel_rfl) _ _ rfl (w.heap.size + 1) (by kernel_rfl) 30 _ (fun u hu => hu.l) _ Try.underlying30 rfl (by kernel_rfl)) ?_
  simp only [List.setIfInBounds_toArray, List.set_cons_zero, List.set_cons_succ]
  refine SeqS.valD (v := .int .i64 a) 70 rfl (by kernel_rfl) (Or.inl ⟨by kernel_rfl, fun u hu => by (go_simp)⟩) ?_
  simp only [List.setIfInBounds_toArray, List.set_cons_zero, List.set_cons_succ]
  refine SeqS.valD (v := .int .i64 b) 71 rfl (by kernel_rfl) (Or.inl ⟨by kernel_rfl, fun u hu => by (go_simp)⟩) ?_
  simp only [List.setIfInBounds_toArray, List.set_cons_zero, List.set_cons_succ]
  refine SeqS.callD 72 (.agg (qcells (rQueue c a b).1 (rQueue c a b).2.1 (rQueue c a b).2.2.1 (rQueue c a b).2.2.2)) rfl (by kernel_rfl) (by kernel_rfl) (fun u hu K hK => ?_) ?_
  · go_simp
    go_at_call 23
    (with_reducible refine (lqueue_any HIN.out _ _).mono ?_)
    rintro e u1 ⟨rfl, b⟩
    exact hK.out _ _ (by kernel_rfl) (hu.below b)
  simp only [List.setIfInBounds_toArray, List.set_cons_zero, List.set_cons_succ]
  refine SeqS.valD (v := .agg (cc c pa pn pc sa sn sc)) 73 rfl (by kernel_rfl) (yields_row (by kernel_rfl) _ _ rfl w.heap.size (by kernel_rfl) 26 _ (fun u hu => hu.x) _ Try.underlying26 rfl (by kernel_rfl)) ?_
  simp only [List.setIfInBounds_toArray, List.set_cons_zero, List.set_cons_succ]
  refine SeqS.valD (v := .int .i64 a) 74 rfl (by kernel_rfl) (Or.inl ⟨by kernel_rfl, fun u hu => by (go_simp)⟩) ?_
  simp only [List.setIfInBounds_toArray, List.set_cons_zero, List.set_cons_succ]
  refine SeqS.valD (v := .int .i64 b) 75 rfl (by kernel_rfl) (Or.inl ⟨by kernel_rfl, fun u hu => by (go_simp)⟩) ?_
  simp only [List.setIfInBounds_toArray, List.set_cons_zero, List.set_cons_succ]
  refine SeqS.callD 76 (.agg (qcells (rQueue c a b).1 (rQueue c a b).2.1 (rQueue c a b).2.2.1 (rQueue c a b).2.2.2)) rfl (by kernel_rfl) (by kernel_rfl) (fun u hu K hK => ?_) ?_
  · go_simp
    go_at_call 36
    (with_reducible refine (queue_any HIN.out _ _).mono ?_)
    rintro e u1 ⟨rfl, b⟩
    exact hK.out _ _ (by kernel_rfl) (hu.below b)
  simp only [List.setIfInBounds_toArray, List.set_cons_zero, List.set_cons_succ]
  refine SeqS.valD (v := .bool false) 77 rfl (by kernel_rfl) (Or.inl ⟨by kernel_rfl, fun u hu => by (have k := que_eq (rQueue c a b) (rQueue c a b) u; go_simp)⟩) ?_
  simp only [List.setIfInBounds_toArray, List.set_cons_zero, List.set_cons_succ]
  refine SeqS.valD (v := .bool false) 78 rfl (by kernel_rfl) (Or.inl ⟨by kernel_rfl, fun u hu => by (go_simp)⟩) ?_
  simp only [List.setIfInBounds_toArray, List.set_cons_zero, List.set_cons_succ]
  refine SeqS.done ?_
  intro W2 hW
  have H2 := Lib.hid hW
  clear hW H1
  go_wp2_with fail
  refine wp_region_seq (S := CelS w c pa pn pc sa sn sc) [0, 1, 2, 3, 4, 5, 6, 7, 8, 9, 10, 11, 12, 13, 14, 15, 16, 17, 18, 19, 20, 21, 22, 23, 24, 25, 26, 27, 28, 29, 30, 31, 32, 33, 34, 35, 36, 37, 38, 39, 40, 41, 42, 43] (by kernel_rfl) (by kernel_rfl) (by kernel_rfl) (by kernel_rfl) (by kernel_rfl) H2.out.drew ?_
  refine SeqS.valD (v := .agg (lcells c)) 79 rfl (by kernel_rfl) (yields_row (by kernel_rfl) _ _ rfl (w.heap.size + 1) (by kernel_rfl) 30 _ (fun u hu => hu.l) _ Try.underlying30 rfl (by kernel_rfl)) ?_
  simp only [List.setIfInBounds_toArray, List.set_cons_zero, List.set_cons_succ]
  refine SeqS.valD (v := .int .i64 a) 80 rfl (by kernel_rfl) (Or.inl ⟨by kernel_rfl, fun u hu => by (go_simp)⟩) ?_
  simp only [List.setIfInBounds_toArray, List.set_cons_zero, List.set_cons_succ]
  refine SeqS.callD 81 (.int .i64 (rTask c a 0)) rfl (by kernel_rfl) (by kernel_rfl) (fun u hu K hK => ?_) ?_
  · go_simp
    go_at_call 24
    (with_reducible refine (lstate_any HIN.out _).mono ?_)
    rintro e u1 ⟨rfl, b⟩
    exact hK.out _ _ (by kernel_rfl) (hu.below b)
  simp only [List.setIfInBounds_toArray, List.set_cons_zero, List.set_cons_succ]
  refine SeqS.valD (v := .agg (cc c pa pn pc sa sn sc)) 82 rfl (by kernel_rfl) (yields_row (by kernel_rfl) _ _ rfl w.heap.size (by kernel_rfl) 26 _ (fun u hu => hu.x) _ Try.underlying26 rfl (by kernel_rfl)) ?_
  simp only [List.setIfInBounds_toArray, List.set_cons_zero, List.set_cons_succ]
  refine SeqS.valD (v := .int .i64 a) 83 rfl (by kernel_rfl) (Or.inl ⟨by kernel_rfl, fun u hu => by (go_simp)⟩) ?_
  simp only [List.setIfInBounds_toArray, List.set_cons_zero, List.set_cons_succ]
  refine SeqS.callD 84 (.int .i64 (rTask c a 0)) rfl (by kernel_rfl) (by kernel_rfl) (fun u hu K hK => ?_) ?_
  · go_simp
    go_at_call 37
    (with_reducible refine (rstate_any HIN.out _).mono ?_)
    rintro e u1 ⟨rfl, b⟩
    exact hK.out _ _ (by kernel_rfl) (hu.below b)
  simp only [List.setIfInBounds_toArray, List.set_cons_zero, List.set_cons_succ]
  refine SeqS.valD (v := .bool true) 85 rfl (by kernel_rfl) (Or.inl ⟨by kernel_rfl, fun u hu => by (go_simp)⟩) ?_
  simp only [List.setIfInBounds_toArray, List.set_cons_zero, List.set_cons_succ]
  refine SeqS.valD (v := .bool true) 86 rfl (by kernel_rfl) (Or.inl ⟨by kernel_rfl, fun u hu => by (go_simp)⟩) ?_
  simp only [List.setIfInBounds_toArray, List.set_cons_zero, List.set_cons_succ]
  refine SeqS.valD (v := .agg (lcells c)) 87 rfl (by kernel_rfl) (yields_row (by kernel_rfl) _ _ rfl (w.heap.size + 1) (by kernel_rfl) 30 _ (fun u hu => hu.l) _ Try.underlying30 rfl (by kernel_rfl)) ?_
  simp only [List.setIfInBounds_toArray, List.set_cons_zero, List.set_cons_succ]
  refine SeqS.valD (v := .int .i64 a) 88 rfl (by kernel_rfl) (Or.inl ⟨by kernel_rfl, fun u hu => by (go_simp)⟩) ?_
  simp only [List.setIfInBounds_toArray, List.set_cons_zero, List.set_cons_succ]
  refine SeqS.callD 89 (.int .i64 (rTask c a 1)) rfl (by kernel_rfl) (by kernel_rfl) (fun u hu K hK => ?_) ?_
  · go_simp
    go_at_call 25
    (with_reducible refine (llevel_any HIN.out _).mono ?_)
    rintro e u1 ⟨rfl, b⟩
    exact hK.out _ _ (by kernel_rfl) (hu.below b)
  simp only [List.setIfInBounds_toArray, List.set_cons_zero, List.set_cons_succ]
  refine SeqS.valD (v := .agg (cc c pa pn pc sa sn sc)) 90 rfl (by kernel_rfl) (yields_row (by kernel_rfl) _ _ rfl w.heap.size (by kernel_rfl) 26 _ (fun u hu => hu.x) _ Try.underlying26 rfl (by kernel_rfl)) ?_
  simp only [List.setIfInBounds_toArray, List.set_cons_zero, List.set_cons_succ]
  refine SeqS.valD (v := .int .i64 a) 91 rfl (by kernel_rfl) (Or.inl ⟨by kernel_rfl, fun u hu => by (go_simp)⟩) ?_
  simp only [List.setIfInBounds_toArray, List.set_cons_zero, List.set_cons_succ]
  refine SeqS.callD 92 (.int .i64 (rTask c a 1)) rfl (by kernel_rfl) (by kernel_rfl) (fun u hu K hK => ?_) ?_
  · go_simp
    go_at_call 38
    (with_reducible refine (rlevel_any HIN.out _).mono ?_)
    rintro e u1 ⟨rfl, b⟩
    exact hK.out _ _ (by kernel_rfl) (hu.below b)
  simp only [List.setIfInBounds_toArray, List.set_cons_zero, List.set_cons_succ]
  refine SeqS.valD (v := .bool true) 93 rfl (by kernel_rfl) (Or.inl ⟨by kernel_rfl, fun u hu => by (go_simp)⟩) ?_
  simp only [List.setIfInBounds_toArray, List.set_cons_zero, List.set_cons_succ]
  refine SeqS.valD (v := .bool true) 94 rfl (by kernel_rfl) (Or.inl ⟨by kernel_rfl, fun u hu => by (go_simp)⟩) ?_
  simp only [List.setIfInBounds_toArray, List.set_cons_zero, List.set_cons_succ]
  refine SeqS.valD (v := .bool true) 95 rfl (by kernel_rfl) (Or.inl ⟨by kernel_rfl, fun u hu => by (go_simp)⟩) ?_
  simp only [List.setIfInBounds_toArray, List.set_cons_zero, List.set_cons_succ]
  refine SeqS.valD (v := .agg (lcells c)) 96 rfl (by kernel_rfl) (yields_row (by kernel_rfl) _ _ rfl (w.heap.size + 1) (by kernel_rfl) 30 _ (fun u hu => hu.l) _ Try.underlying30 rfl (by kernel_rfl)) ?_
  simp only [List.setIfInBounds_toArray, List.set_cons_zero, List.set_cons_succ]
  refine SeqS.valD (v := .int .i64 a) 97 rfl (by kernel_rfl) (Or.inl ⟨by kernel_rfl, fun u hu => by (go_simp)⟩) ?_
  simp only [List.setIfInBounds_toArray, List.set_cons_zero, List.set_cons_succ]
  refine SeqS.callD 98 (.int .i64 (rTask c a 2)) rfl (by kernel_rfl) (by kernel_rfl) (fun u hu K hK => ?_) ?_
  · go_simp
    go_at_call 26
    (with_reducible refine (ljoin_any HIN.out _).mono ?_)
    rintro e u1 ⟨rfl, b⟩
    exact hK.out _ _ (by kernel_rfl) (hu.below b)
  simp only [List.setIfInBounds_toArray, List.set_cons_zero, List.set_cons_succ]
  refine SeqS.valD (v := .agg (cc c pa pn pc sa sn sc)) 99 rfl (by kernel_rfl) (yields_row (by kernel_rfl) _ _ rfl w.heap.size (by kernel_rfl) 26 _ (fun u hu => hu.x) _ Try.underlying26 rfl (by kernel_rfl)) ?_
  simp only [List.setIfInBounds_toArray, List.set_cons_zero, List.set_cons_succ]
  refine SeqS.valD (v := .int .i64 a) 100 rfl (by kernel_rfl) (Or.inl ⟨by kernel_rfl, fun u hu => by (go_simp)⟩) ?_
  simp only [List.setIfInBounds_toArray, List.set_cons_zero, List.set_cons_succ]
  refine SeqS.callD 101 (.int .i64 (rTask c a 2)) rfl (by kernel_rfl) (by kernel_rfl) (fun u hu K hK => ?_) ?_
  · go_simp
    go_at_call 39
    (with_reducible refine (rjoin_any HIN.out _).mono ?_)
    rintro e u1 ⟨rfl, b⟩
    exact hK.out _ _ (by kernel_rfl) (hu.below b)
  simp only [List.setIfInBounds_toArray, List.set_cons_zero, List.set_cons_succ]
  refine SeqS.valD (v := .bool true) 102 rfl (by kernel_rfl) (Or.inl ⟨by kernel_rfl, fun u hu => by (go_simp)⟩) ?_
  simp only [List.setIfInBounds_toArray, List.set_cons_zero, List.set_cons_succ]
  refine SeqS.valD (v := .bool true) 103 rfl (by kernel_rfl) (Or.inl ⟨by kernel_rfl, fun u hu => by (go_simp)⟩) ?_
  simp only [List.setIfInBounds_toArray, List.set_cons_zero, List.set_cons_succ]
  refine SeqS.valD (v := .bool true) 104 rfl (by kernel_rfl) (Or.inl ⟨by kernel_rfl, fun u hu => by (go_simp)⟩) ?_
  simp only [List.setIfInBounds_toArray, List.set_cons_zero, List.set_cons_succ]
  refine SeqS.valD (v := .agg (lcells c)) 105 rfl (by kernel_rfl) (yields_row (by kernel_rfl) _ _ rfl (w.heap.size + 1) (by kernel_rfl) 30 _ (fun u hu => hu.l) _ Try.underlying30 rfl (by kernel_rfl)) ?_
  simp only [List.setIfInBounds_toArray, List.set_cons_zero, List.set_cons_succ]
  refine SeqS.valD (v := .int .i64 a) 106 rfl (by kernel_rfl) (Or.inl ⟨by kernel_rfl, fun u hu => by (go_simp)⟩) ?_
  simp only [List.setIfInBounds_toArray, List.set_cons_zero, List.set_cons_succ]
  refine SeqS.callD 107 (.int .i64 (rTask c a 3)) rfl (by kernel_rfl) (by kernel_rfl) (fun u hu K hK => ?_) ?_
  · go_simp
    go_at_call 27
    (with_reducible refine (lwaits_any HIN.out _).mono ?_)
    rintro e u1 ⟨rfl, b⟩
    exact hK.out _ _ (by kernel_rfl) (hu.below b)
  simp only [List.setIfInBounds_toArray, List.set_cons_zero, List.set_cons_succ]
  refine SeqS.valD (v := .agg (cc c pa pn pc sa sn sc)) 108 rfl (by kernel_rfl) (yields_row (by kernel_rfl) _ _ rfl w.heap.size (by kernel_rfl) 26 _ (fun u hu => hu.x) _ Try.underlying26 rfl (by kernel_rfl)) ?_
  simp only [List.setIfInBounds_toArray, List.set_cons_zero, List.set_cons_succ]
  refine SeqS.valD (v := .int .i64 a) 109 rfl (by kernel_rfl) (Or.inl ⟨by kernel_rfl, fun u hu => by (go_simp)⟩) ?_
  simp only [List.setIfInBounds_toArray, List.set_cons_zero, List.set_cons_succ]
  refine SeqS.callD 110 (.int .i64 (rTask c a 3)) rfl (by kernel_rfl) (by kernel_rfl) (fun u hu K hK => ?_) ?_
  · go_simp
    go_at_call 40
    (with_reducible refine (rwaits_any HIN.out _).mono ?_)
    rintro e u1 ⟨rfl, b⟩
    exact hK.out _ _ (by kernel_rfl) (hu.below b)
  simp only [List.setIfInBounds_toArray, List.set_cons_zero, List.set_cons_succ]
  refine SeqS.valD (v := .bool true) 111 rfl (by kernel_rfl) (Or.inl ⟨by kernel_rfl, fun u hu => by (go_simp)⟩) ?_
  simp only [List.setIfInBounds_toArray, List.set_cons_zero, List.set_cons_succ]
  refine SeqS.valD (v := .bool true) 112 rfl (by kernel_rfl) (Or.inl ⟨by kernel_rfl, fun u hu => by (go_simp)⟩) ?_
  simp only [List.setIfInBounds_toArray, List.set_cons_zero, List.set_cons_succ]
  refine SeqS.valD (v := .bool true) 113 rfl (by kernel_rfl) (Or.inl ⟨by kernel_rfl, fun u hu => by (go_simp)⟩) ?_
  simp only [List.setIfInBounds_toArray, List.set_cons_zero, List.set_cons_succ]
  refine SeqS.valD (v := .agg (lcells c)) 114 rfl (by kernel_rfl) (yields_row (by kernel_rfl) _ _ rfl (w.heap.size + 1) (by kernel_rfl) 30 _ (fun u hu => hu.l) _ Try.underlying30 rfl (by kernel_rfl)) ?_
  simp only [List.setIfInBounds_toArray, List.set_cons_zero, List.set_cons_succ]
  refine SeqS.valD (v := .int .i64 a) 115 rfl (by kernel_rfl) (Or.inl ⟨by kernel_rfl, fun u hu => by (go_simp)⟩) ?_
  simp only [List.setIfInBounds_toArray, List.set_cons_zero, List.set_cons_succ]
  refine SeqS.callD 116 (.int .i64 (rTask c a 4)) rfl (by kernel_rfl) (by kernel_rfl) (fun u hu K hK => ?_) ?_
  · go_simp
    go_at_call 28
    (with_reducible refine (lsince_any HIN.out _).mono ?_)
    rintro e u1 ⟨rfl, b⟩
    exact hK.out _ _ (by kernel_rfl) (hu.below b)
  simp only [List.setIfInBounds_toArray, List.set_cons_zero, List.set_cons_succ]
  refine SeqS.valD (v := .agg (cc c pa pn pc sa sn sc)) 117 rfl (by kernel_rfl) (yields_row (by kernel_rfl) _ _ rfl w.heap.size (by kernel_rfl) 26 _ (fun u hu => hu.x) _ Try.underlying26 rfl (by kernel_rfl)) ?_
  simp only [List.setIfInBounds_toArray, List.set_cons_zero, List.set_cons_succ]
  refine SeqS.valD (v := .int .i64 a) 118 rfl (by kernel_rfl) (Or.inl ⟨by kernel_rfl, fun u hu => by (go_simp)⟩) ?_
  simp only [List.setIfInBounds_toArray, List.set_cons_zero, List.set_cons_succ]
  refine SeqS.callD 119 (.int .i64 (rTask c a 4)) rfl (by kernel_rfl) (by kernel_rfl) (fun u hu K hK => ?_) ?_
  · go_simp
    go_at_call 41
    (with_reducible refine (rsince_any HIN.out _).mono ?_)
    rintro e u1 ⟨rfl, b⟩
    exact hK.out _ _ (by kernel_rfl) (hu.below b)
  simp only [List.setIfInBounds_toArray, List.set_cons_zero, List.set_cons_succ]
  refine SeqS.valD (v := .bool true) 120 rfl (by kernel_rfl) (Or.inl ⟨by kernel_rfl, fun u hu => by (go_simp)⟩) ?_
  simp only [List.setIfInBounds_toArray, List.set_cons_zero, List.set_cons_succ]
  refine SeqS.valD (v := .bool true) 121 rfl (by kernel_rfl) (Or.inl ⟨by kernel_rfl, fun u hu => by (go_simp)⟩) ?_
  simp only [List.setIfInBounds_toArray, List.set_cons_zero, List.set_cons_succ]
  refine SeqS.valD (v := .bool true) 8 rfl (by kernel_rfl) (Or.inl ⟨by kernel_rfl, fun u hu => by (go_simp)⟩) ?_
  simp only [List.setIfInBounds_toArray, List.set_cons_zero, List.set_cons_succ]
  refine SeqS.done ?_
  intro W3 hW
  have H3 := Lib.hid hW
  clear hW H2
  go_wp2
  go_ret
  exact ⟨rfl, H3.out.b⟩
end
end Go.Proofs.Ytffcclgcgiilmaa
