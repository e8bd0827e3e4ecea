/-
  Stage 11: the end of a player's operation.
-/
import Derived.Test.YtjehiekmlbeaeaaGreatPlY
import Derived.Test.YtjehiekmlbeaeaaGreatMgAN
import Derived.Deep.MidRow
namespace Go.Proofs.YtjehiekmlbeaeaaGreat
open Go Go.RowKit Go.Shelf
set_option linter.unusedSimpArgs false
set_option linter.unusedVariables false

theorem PB.away {w : World} {bp K : Nat} {row : Nat → Nat → Value} (h : PB w bp K row) {b : Nat} (hne : bp ≠ b) (cs : Array Value) : PB (w.setRow b cs) bp K row := by
  obtain ⟨c0, hb, hc⟩ := h
  exact ⟨c0, hb.of_same (setRow_other w b bp cs hne), hc⟩
theorem rowS_int {row : Nat → Nat → Value} {i j : Nat} (h : ∃ z : Int, row i j = .int .i64 z) (b : Nat) (y : Int) : ∃ z : Int, rowS row i b (.int .i64 y) i j = .int .i64 z := by
  unfold rowS
  split
  · exact ⟨y, rfl⟩
  · exact h
theorem rowS_nil {row : Nat → Nat → Value} {i j : Nat} (h : ∃ z : Int, row i j = .int .i64 z) (hj : 2 ≤ j) : ∃ z : Int, rowS row i 1 .nilIface i j = .int .i64 z := by
  rw [rowS_ne _ _ _ _ (by omega)]
  exact h
/-- What end gives. -/
def EndP (w : World) (bp K i : Nat) (row : Nat → Nat → Value) (x : OpR) (e : Ending) (w' : World) : Prop :=
  e = .returned (.agg (opC x)) ∧ Fr [bp] w w' ∧ ∃ row', PB w' bp K row' ∧ row' i 1 = .nilIface ∧ (∀ b c, b ≠ i ∨ c = 0 → row' b c = row b c) ∧ ∀ j, 2 ≤ j → j < 8 → (∃ z : Int, row i j = .int .i64 z) → ∃ z : Int, row' i j = .int .i64 z
abbrev opZ : Array Value := #[.int .i64 0, .int .i64 0, .int .i64 0, .int .i64 0, .int .i64 0, .int .i64 0]
theorem range_op {w : World} {bp K i : Nat} {row : Nat → Nat → Value} (h : PB w bp K row) (hi : i < K) {x : OpR} (h2 : row i 2 = .int .i64 x.k) (h3 : row i 3 = .int .i64 x.m) (h4 : row i 4 = .int .i64 x.a) (h5 : row i 5 = .int .i64 x.b) (h6 : row i 6 = .int .i64 x.c) (h7 : row i 7 = .int .i64 x.v) {o : Nat} (ho : i * 8 = o) :
    w.rangeAt bp (o + 2) (opL x) := by
  intro j v hv
  subst ho
  have hj : j < 6 := (List.getElem?_eq_some_iff.1 hv).1
  rw [show i * 8 + 2 + j = i * 8 + (2 + j) by omega, h.cell hi (2 + j) (by omega), ← hv]
  match j, hj with
  | 0, _ => rw [h2]; rfl
  | 1, _ => rw [h3]; rfl
  | 2, _ => rw [h4]; rfl
  | 3, _ => rw [h5]; rfl
  | 4, _ => rw [h6]; rfl
  | 5, _ => rw [h7]; rfl
set_option maxRecDepth 100000 in
set_option maxHeartbeats 8000000 in
theorem pend_pusher {w : World} {bp K i q : Nat} {row : Nat → Nat → Value} {post : List Value} {f : Fra} {cd vl m a b c0 v : Int} (h : PB w bp K row) (hi : i < K) (hob : OB w q 264 post f cd vl) (h1 : row i 1 = .iface 259 (.pointer (some ⟨q, 0, none⟩)))
    (h2 : row i 2 = .int .i64 0) (h3 : row i 3 = .int .i64 m) (h4 : row i 4 = .int .i64 a) (h5 : row i 5 = .int .i64 b) (h6 : row i 6 = .int .i64 c0) (h7 : row i 7 = .int .i64 v) :
    Calls Tryz.prog 100 #[.pointer (some ⟨bp, i * 8, none⟩)] w (EndP w bp K i row ⟨0, m, a, b, cd, v⟩) := by
  have HH := Lib.hid (And.intro hi (And.intro h2 (And.intro h3 (And.intro h4 (And.intro h5 (And.intro h6 h7))))))
  have HP := Lib.hid (h.below (below_one w (.cells opZ 80)))
  have HOB := Lib.hid (hob.below (below_one w (.cells opZ 80)))
  have HR := Lib.hid (Blk.made w 80 opZ)
  have HF := Lib.hid (show Fr [bp] w (w.alloc (.cells opZ 80)) from Fr.old (below_one w _))
  have H1 := Lib.hid h1
  have HBP := Lib.hid h.lt
  clear h hob hi h1 h2 h3 h4 h5 h6 h7
  go_enter Tryz.func100, Tryz.ntmps100
  go_upto_region 1 with fail
  generalize w.alloc (.cells opZ 80) = W at *
  obtain ⟨rb, hrb⟩ : ∃ rb, w.heap.size = rb := ⟨_, rfl⟩
  rw [hrb] at HR ⊢
  have HRB := Lib.hid hrb
  clear hrb
  obtain ⟨o, ho⟩ : ∃ o, i * 8 = o := ⟨_, rfl⟩
  have HO := Lib.hid ho
  have p1 := HP.out.cell HH.out.1 1 (by omega)
  rw [ho, H1.out] at p1
  rw [ho]
  clear ho
  have kr := meth_result_pusher q
  have ks := ahead_result_pusher q
  go_wp2_with fail
  (with_reducible refine (oresult_any HOB.out).mono ?_)
  rintro e W1 ⟨rfl, nd, rfl⟩
  have HP1 := Lib.hid (HP.out.below (below_drewN W nd))
  have HR1 := Lib.hid (HR.out.below (below_drewN W nd))
  have HF1 := Lib.hid (HF.out.drewN nd)
  clear HP HR HF HOB p1 kr ks
  generalize W.drewN nd = W1 at *
  have p1 := HP1.out.cell HH.out.1 1 (by omega)
  rw [HO.out] at p1
  have f1 := HP1.out.free (o + 1)
  go_upto_region 3 with fail
  clear p1 f1
  have hne : rb ≠ bp := by have := HRB.out; have := HBP.out; omega
  have HP2 := Lib.hid (HO.out ▸ HP1.out.put i 1 (by omega) .nilIface : PB (W1.setCell ⟨bp, o + 1, none⟩ .nilIface) bp K (rowS row i 1 .nilIface))
  have HR2 := Lib.hid (HR1.out.away (p := ⟨bp, o + 1, none⟩) hne .nilIface)
  have HF2 := Lib.hid (HF1.out.setCell (p := ⟨bp, o + 1, none⟩) (.inl (by simp)) .nilIface)
  clear HP1 HR1 HF1
  generalize W1.setCell ⟨bp, o + 1, none⟩ .nilIface = W2 at *
  have p6 := HP2.out.cell HH.out.1 6 (by omega)
  rw [HO.out] at p6
  have f6 := HP2.out.free (o + 6)
  go_upto_region 4 with fail
  clear p6 f6
  have HP3 := Lib.hid (HO.out ▸ HP2.out.put i 6 (by omega) (.int .i64 cd) : PB (W2.setCell ⟨bp, o + 6, none⟩ (.int .i64 cd)) bp K (rowS (rowS row i 1 .nilIface) i 6 (.int .i64 cd)))
  have HR3 := Lib.hid (HR2.out.away (p := ⟨bp, o + 6, none⟩) hne (.int .i64 cd))
  have HF3 := Lib.hid (HF2.out.setCell (p := ⟨bp, o + 6, none⟩) (.inl (by simp)) (.int .i64 cd))
  clear HP2 HR2 HF2
  generalize W2.setCell ⟨bp, o + 6, none⟩ (.int .i64 cd) = W3 at *
  have p2 := HP3.out.cell HH.out.1 2 (by omega)
  rw [HO.out, rowS_ne _ _ _ _ (by omega), rowS_ne _ _ _ _ (by omega), HH.out.2.1] at p2
  have HRG := Lib.hid (range_op HP3.out HH.out.1 (x := ⟨0, m, a, b, cd, v⟩) (by rw [rowS_ne _ _ _ _ (by omega), rowS_ne _ _ _ _ (by omega)]; exact HH.out.2.1) (by rw [rowS_ne _ _ _ _ (by omega), rowS_ne _ _ _ _ (by omega)]; exact HH.out.2.2.1) (by rw [rowS_ne _ _ _ _ (by omega), rowS_ne _ _ _ _ (by omega)]; exact HH.out.2.2.2.1) (by rw [rowS_ne _ _ _ _ (by omega), rowS_ne _ _ _ _ (by omega)]; exact HH.out.2.2.2.2.1) (by exact rowS_at ..) (by rw [rowS_ne _ _ _ _ (by omega), rowS_ne _ _ _ _ (by omega)]; exact HH.out.2.2.2.2.2.2) HO.out)
  go_wp2_with (first | (refine wpList_load_mid rfl 80 (.tmp 34) rfl bp (o + 2) rfl (opL ⟨0, m, a, b, cd, v⟩) _ HRG.out Tryz.underlying80 rfl (by kernel_rfl) ?_) | (refine wpList_store_rowTo rfl 80 (.tmp 2) (.tmp 35) rfl rfl rb (opC ⟨0, m, a, b, cd, v⟩) rfl rfl 80 opZ HR3.out (by kernel_rfl) rfl (by kernel_rfl) ?_))
  refine bodyPost_ret (results_cell_row (P := Tryz.prog) Tryz.results100 _ _ rb 80 _ (0, 0) _ rfl (HR3.out.setRow _) Tryz.underlying80 rfl (by kernel_rfl)) rfl ?_
  have hbr : Fr [bp] W3 (W3.setRow rb (opC ⟨0, m, a, b, cd, v⟩)) ∨ True := .inr trivial
  refine ⟨rfl, ?_, _, PB.away HP3.out (show bp ≠ rb from fun e => hne e.symm) _, (by rw [rowS_ne _ _ _ _ (by omega)]; exact rowS_at ..), fun b' c' hbc => ?_, fun j' h2' h8' hz => ?_⟩
  · have := HF3.out
    exact ⟨this.os, this.tape, this.output, by rw [size_setRow]; exact this.size, fun k hk hn => (setRow_other W3 rb k _ (by have := HRB.out; omega)).trans (this.block k hk hn)⟩
  · rw [rowS_ne _ _ _ _ (by omega), rowS_ne _ _ _ _ (by omega)]
  · exact rowS_int (rowS_nil hz h2') 6 cd
set_option maxRecDepth 100000 in
set_option maxHeartbeats 8000000 in
theorem pend_popper {w : World} {bp K i q : Nat} {row : Nat → Nat → Value} {post : List Value} {f : Fra} {cd vl m a b c0 v : Int} (h : PB w bp K row) (hi : i < K) (hob : OB w q 267 post f cd vl) (h1 : row i 1 = .iface 265 (.pointer (some ⟨q, 0, none⟩)))
    (h2 : row i 2 = .int .i64 1) (h3 : row i 3 = .int .i64 m) (h4 : row i 4 = .int .i64 a) (h5 : row i 5 = .int .i64 b) (h6 : row i 6 = .int .i64 c0) (h7 : row i 7 = .int .i64 v) :
    Calls Tryz.prog 100 #[.pointer (some ⟨bp, i * 8, none⟩)] w (EndP w bp K i row ⟨1, m, a, b, cd, vl⟩) := by
  have HH := Lib.hid (And.intro hi (And.intro h2 (And.intro h3 (And.intro h4 (And.intro h5 (And.intro h6 h7))))))
  have HP := Lib.hid (h.below (below_one w (.cells opZ 80)))
  have HOB := Lib.hid (hob.below (below_one w (.cells opZ 80)))
  have HR := Lib.hid (Blk.made w 80 opZ)
  have HF := Lib.hid (show Fr [bp] w (w.alloc (.cells opZ 80)) from Fr.old (below_one w _))
  have H1 := Lib.hid h1
  have HBP := Lib.hid h.lt
  clear h hob hi h1 h2 h3 h4 h5 h6 h7
  go_enter Tryz.func100, Tryz.ntmps100
  go_upto_region 1 with fail
  generalize w.alloc (.cells opZ 80) = W at *
  obtain ⟨rb, hrb⟩ : ∃ rb, w.heap.size = rb := ⟨_, rfl⟩
  rw [hrb] at HR ⊢
  have HRB := Lib.hid hrb
  clear hrb
  obtain ⟨o, ho⟩ : ∃ o, i * 8 = o := ⟨_, rfl⟩
  have HO := Lib.hid ho
  have p1 := HP.out.cell HH.out.1 1 (by omega)
  rw [ho, H1.out] at p1
  rw [ho]
  clear ho
  have kr := meth_result_popper q
  have ks := ahead_result_popper q
  go_wp2_with fail
  (with_reducible refine (oresult_any HOB.out).mono ?_)
  rintro e W1 ⟨rfl, nd, rfl⟩
  have HP1 := Lib.hid (HP.out.below (below_drewN W nd))
  have HR1 := Lib.hid (HR.out.below (below_drewN W nd))
  have HF1 := Lib.hid (HF.out.drewN nd)
  clear HP HR HF HOB p1 kr ks
  generalize W.drewN nd = W1 at *
  have p1 := HP1.out.cell HH.out.1 1 (by omega)
  rw [HO.out] at p1
  have f1 := HP1.out.free (o + 1)
  go_upto_region 3 with fail
  clear p1 f1
  have hne : rb ≠ bp := by have := HRB.out; have := HBP.out; omega
  have HP2 := Lib.hid (HO.out ▸ HP1.out.put i 1 (by omega) .nilIface : PB (W1.setCell ⟨bp, o + 1, none⟩ .nilIface) bp K (rowS row i 1 .nilIface))
  have HR2 := Lib.hid (HR1.out.away (p := ⟨bp, o + 1, none⟩) hne .nilIface)
  have HF2 := Lib.hid (HF1.out.setCell (p := ⟨bp, o + 1, none⟩) (.inl (by simp)) .nilIface)
  clear HP1 HR1 HF1
  generalize W1.setCell ⟨bp, o + 1, none⟩ .nilIface = W2 at *
  have p6 := HP2.out.cell HH.out.1 6 (by omega)
  rw [HO.out] at p6
  have f6 := HP2.out.free (o + 6)
  go_upto_region 4 with fail
  clear p6 f6
  have HP3 := Lib.hid (HO.out ▸ HP2.out.put i 6 (by omega) (.int .i64 cd) : PB (W2.setCell ⟨bp, o + 6, none⟩ (.int .i64 cd)) bp K (rowS (rowS row i 1 .nilIface) i 6 (.int .i64 cd)))
  have HR3 := Lib.hid (HR2.out.away (p := ⟨bp, o + 6, none⟩) hne (.int .i64 cd))
  have HF3 := Lib.hid (HF2.out.setCell (p := ⟨bp, o + 6, none⟩) (.inl (by simp)) (.int .i64 cd))
  clear HP2 HR2 HF2
  generalize W2.setCell ⟨bp, o + 6, none⟩ (.int .i64 cd) = W3 at *
  have p2 := HP3.out.cell HH.out.1 2 (by omega)
  rw [HO.out, rowS_ne _ _ _ _ (by omega), rowS_ne _ _ _ _ (by omega), HH.out.2.1] at p2
  have p7 := HP3.out.cell HH.out.1 7 (by omega)
  rw [HO.out] at p7
  have f7 := HP3.out.free (o + 7)
  go_upto_region 6 with fail
  clear p2 p7 f7
  have HP4 := Lib.hid (HO.out ▸ HP3.out.put i 7 (by omega) (.int .i64 vl) : PB (W3.setCell ⟨bp, o + 7, none⟩ (.int .i64 vl)) bp K (rowS (rowS (rowS row i 1 .nilIface) i 6 (.int .i64 cd)) i 7 (.int .i64 vl)))
  have HR4 := Lib.hid (HR3.out.away (p := ⟨bp, o + 7, none⟩) hne (.int .i64 vl))
  have HF4 := Lib.hid (HF3.out.setCell (p := ⟨bp, o + 7, none⟩) (.inl (by simp)) (.int .i64 vl))
  clear HP3 HR3 HF3
  generalize W3.setCell ⟨bp, o + 7, none⟩ (.int .i64 vl) = W4 at *
  have HRG := Lib.hid (range_op HP4.out HH.out.1 (x := ⟨1, m, a, b, cd, vl⟩) (by rw [rowS_ne _ _ _ _ (by omega), rowS_ne _ _ _ _ (by omega), rowS_ne _ _ _ _ (by omega)]; exact HH.out.2.1) (by rw [rowS_ne _ _ _ _ (by omega), rowS_ne _ _ _ _ (by omega), rowS_ne _ _ _ _ (by omega)]; exact HH.out.2.2.1) (by rw [rowS_ne _ _ _ _ (by omega), rowS_ne _ _ _ _ (by omega), rowS_ne _ _ _ _ (by omega)]; exact HH.out.2.2.2.1) (by rw [rowS_ne _ _ _ _ (by omega), rowS_ne _ _ _ _ (by omega), rowS_ne _ _ _ _ (by omega)]; exact HH.out.2.2.2.2.1) (by rw [rowS_ne _ _ _ _ (by omega)]; exact rowS_at ..) (by exact rowS_at ..) HO.out)
  go_wp2_with (first | (refine wpList_load_mid rfl 80 (.tmp 34) rfl bp (o + 2) rfl (opL ⟨1, m, a, b, cd, vl⟩) _ HRG.out Tryz.underlying80 rfl (by kernel_rfl) ?_) | (refine wpList_store_rowTo rfl 80 (.tmp 2) (.tmp 35) rfl rfl rb (opC ⟨1, m, a, b, cd, vl⟩) rfl rfl 80 opZ HR4.out (by kernel_rfl) rfl (by kernel_rfl) ?_))
  refine bodyPost_ret (results_cell_row (P := Tryz.prog) Tryz.results100 _ _ rb 80 _ (0, 0) _ rfl (HR4.out.setRow _) Tryz.underlying80 rfl (by kernel_rfl)) rfl ?_
  have hbr : Fr [bp] W4 (W4.setRow rb (opC ⟨1, m, a, b, cd, vl⟩)) ∨ True := .inr trivial
  refine ⟨rfl, ?_, _, PB.away HP4.out (show bp ≠ rb from fun e => hne e.symm) _, (by rw [rowS_ne _ _ _ _ (by omega), rowS_ne _ _ _ _ (by omega)]; exact rowS_at ..), fun b' c' hbc => ?_, fun j' h2' h8' hz => ?_⟩
  · have := HF4.out
    exact ⟨this.os, this.tape, this.output, by rw [size_setRow]; exact this.size, fun k hk hn => (setRow_other W4 rb k _ (by have := HRB.out; omega)).trans (this.block k hk hn)⟩
  · rw [rowS_ne _ _ _ _ (by omega), rowS_ne _ _ _ _ (by omega), rowS_ne _ _ _ _ (by omega)]
  · exact rowS_int (rowS_int (rowS_nil hz h2') 6 cd) 7 vl
set_option maxRecDepth 100000 in
set_option maxHeartbeats 8000000 in
theorem pend_stealer {w : World} {bp K i q : Nat} {row : Nat → Nat → Value} {post : List Value} {f : Fra} {cd vl m a b c0 v : Int} (h : PB w bp K row) (hi : i < K) (hob : OB w q 270 post f cd vl) (h1 : row i 1 = .iface 268 (.pointer (some ⟨q, 0, none⟩)))
    (h2 : row i 2 = .int .i64 2) (h3 : row i 3 = .int .i64 m) (h4 : row i 4 = .int .i64 a) (h5 : row i 5 = .int .i64 b) (h6 : row i 6 = .int .i64 c0) (h7 : row i 7 = .int .i64 v) :
    Calls Tryz.prog 100 #[.pointer (some ⟨bp, i * 8, none⟩)] w (EndP w bp K i row ⟨2, m, a, b, cd, vl⟩) := by
  have HH := Lib.hid (And.intro hi (And.intro h2 (And.intro h3 (And.intro h4 (And.intro h5 (And.intro h6 h7))))))
  have HP := Lib.hid (h.below (below_one w (.cells opZ 80)))
  have HOB := Lib.hid (hob.below (below_one w (.cells opZ 80)))
  have HR := Lib.hid (Blk.made w 80 opZ)
  have HF := Lib.hid (show Fr [bp] w (w.alloc (.cells opZ 80)) from Fr.old (below_one w _))
  have H1 := Lib.hid h1
  have HBP := Lib.hid h.lt
  clear h hob hi h1 h2 h3 h4 h5 h6 h7
  go_enter Tryz.func100, Tryz.ntmps100
  go_upto_region 1 with fail
  generalize w.alloc (.cells opZ 80) = W at *
  obtain ⟨rb, hrb⟩ : ∃ rb, w.heap.size = rb := ⟨_, rfl⟩
  rw [hrb] at HR ⊢
  have HRB := Lib.hid hrb
  clear hrb
  obtain ⟨o, ho⟩ : ∃ o, i * 8 = o := ⟨_, rfl⟩
  have HO := Lib.hid ho
  have p1 := HP.out.cell HH.out.1 1 (by omega)
  rw [ho, H1.out] at p1
  rw [ho]
  clear ho
  have kr := meth_result_stealer q
  have ks := ahead_result_stealer q
  go_wp2_with fail
  (with_reducible refine (oresult_any HOB.out).mono ?_)
  rintro e W1 ⟨rfl, nd, rfl⟩
  have HP1 := Lib.hid (HP.out.below (below_drewN W nd))
  have HR1 := Lib.hid (HR.out.below (below_drewN W nd))
  have HF1 := Lib.hid (HF.out.drewN nd)
  clear HP HR HF HOB p1 kr ks
  generalize W.drewN nd = W1 at *
  have p1 := HP1.out.cell HH.out.1 1 (by omega)
  rw [HO.out] at p1
  have f1 := HP1.out.free (o + 1)
  go_upto_region 3 with fail
  clear p1 f1
  have hne : rb ≠ bp := by have := HRB.out; have := HBP.out; omega
  have HP2 := Lib.hid (HO.out ▸ HP1.out.put i 1 (by omega) .nilIface : PB (W1.setCell ⟨bp, o + 1, none⟩ .nilIface) bp K (rowS row i 1 .nilIface))
  have HR2 := Lib.hid (HR1.out.away (p := ⟨bp, o + 1, none⟩) hne .nilIface)
  have HF2 := Lib.hid (HF1.out.setCell (p := ⟨bp, o + 1, none⟩) (.inl (by simp)) .nilIface)
  clear HP1 HR1 HF1
  generalize W1.setCell ⟨bp, o + 1, none⟩ .nilIface = W2 at *
  have p6 := HP2.out.cell HH.out.1 6 (by omega)
  rw [HO.out] at p6
  have f6 := HP2.out.free (o + 6)
  go_upto_region 4 with fail
  clear p6 f6
  have HP3 := Lib.hid (HO.out ▸ HP2.out.put i 6 (by omega) (.int .i64 cd) : PB (W2.setCell ⟨bp, o + 6, none⟩ (.int .i64 cd)) bp K (rowS (rowS row i 1 .nilIface) i 6 (.int .i64 cd)))
  have HR3 := Lib.hid (HR2.out.away (p := ⟨bp, o + 6, none⟩) hne (.int .i64 cd))
  have HF3 := Lib.hid (HF2.out.setCell (p := ⟨bp, o + 6, none⟩) (.inl (by simp)) (.int .i64 cd))
  clear HP2 HR2 HF2
  generalize W2.setCell ⟨bp, o + 6, none⟩ (.int .i64 cd) = W3 at *
  have p2 := HP3.out.cell HH.out.1 2 (by omega)
  rw [HO.out, rowS_ne _ _ _ _ (by omega), rowS_ne _ _ _ _ (by omega), HH.out.2.1] at p2
  have p7 := HP3.out.cell HH.out.1 7 (by omega)
  rw [HO.out] at p7
  have f7 := HP3.out.free (o + 7)
  go_upto_region 6 with fail
  clear p2 p7 f7
  have HP4 := Lib.hid (HO.out ▸ HP3.out.put i 7 (by omega) (.int .i64 vl) : PB (W3.setCell ⟨bp, o + 7, none⟩ (.int .i64 vl)) bp K (rowS (rowS (rowS row i 1 .nilIface) i 6 (.int .i64 cd)) i 7 (.int .i64 vl)))
  have HR4 := Lib.hid (HR3.out.away (p := ⟨bp, o + 7, none⟩) hne (.int .i64 vl))
  have HF4 := Lib.hid (HF3.out.setCell (p := ⟨bp, o + 7, none⟩) (.inl (by simp)) (.int .i64 vl))
  clear HP3 HR3 HF3
  generalize W3.setCell ⟨bp, o + 7, none⟩ (.int .i64 vl) = W4 at *
  have HRG := Lib.hid (range_op HP4.out HH.out.1 (x := ⟨2, m, a, b, cd, vl⟩) (by rw [rowS_ne _ _ _ _ (by omega), rowS_ne _ _ _ _ (by omega), rowS_ne _ _ _ _ (by omega)]; exact HH.out.2.1) (by rw [rowS_ne _ _ _ _ (by omega), rowS_ne _ _ _ _ (by omega), rowS_ne _ _ _ _ (by omega)]; exact HH.out.2.2.1) (by rw [rowS_ne _ _ _ _ (by omega), rowS_ne _ _ _ _ (by omega), rowS_ne _ _ _ _ (by omega)]; exact HH.out.2.2.2.1) (by rw [rowS_ne _ _ _ _ (by omega), rowS_ne _ _ _ _ (by omega), rowS_ne _ _ _ _ (by omega)]; exact HH.out.2.2.2.2.1) (by rw [rowS_ne _ _ _ _ (by omega)]; exact rowS_at ..) (by exact rowS_at ..) HO.out)
  go_wp2_with (first | (refine wpList_load_mid rfl 80 (.tmp 34) rfl bp (o + 2) rfl (opL ⟨2, m, a, b, cd, vl⟩) _ HRG.out Tryz.underlying80 rfl (by kernel_rfl) ?_) | (refine wpList_store_rowTo rfl 80 (.tmp 2) (.tmp 35) rfl rfl rb (opC ⟨2, m, a, b, cd, vl⟩) rfl rfl 80 opZ HR4.out (by kernel_rfl) rfl (by kernel_rfl) ?_))
  refine bodyPost_ret (results_cell_row (P := Tryz.prog) Tryz.results100 _ _ rb 80 _ (0, 0) _ rfl (HR4.out.setRow _) Tryz.underlying80 rfl (by kernel_rfl)) rfl ?_
  have hbr : Fr [bp] W4 (W4.setRow rb (opC ⟨2, m, a, b, cd, vl⟩)) ∨ True := .inr trivial
  refine ⟨rfl, ?_, _, PB.away HP4.out (show bp ≠ rb from fun e => hne e.symm) _, (by rw [rowS_ne _ _ _ _ (by omega), rowS_ne _ _ _ _ (by omega)]; exact rowS_at ..), fun b' c' hbc => ?_, fun j' h2' h8' hz => ?_⟩
  · have := HF4.out
    exact ⟨this.os, this.tape, this.output, by rw [size_setRow]; exact this.size, fun k hk hn => (setRow_other W4 rb k _ (by have := HRB.out; omega)).trans (this.block k hk hn)⟩
  · rw [rowS_ne _ _ _ _ (by omega), rowS_ne _ _ _ _ (by omega), rowS_ne _ _ _ _ (by omega)]
  · exact rowS_int (rowS_int (rowS_nil hz h2') 6 cd) 7 vl
end Go.Proofs.YtjehiekmlbeaeaaGreat
