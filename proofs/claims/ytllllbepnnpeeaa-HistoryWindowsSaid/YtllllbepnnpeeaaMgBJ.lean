/-
  Stage 11: the end of a player's operation.
  Stage 11: the game of Play in memory: what changes keep.
-/
import Derived.Test.YtllllbepnnpeeaaPlY
import Derived.Test.YtllllbepnnpeeaaMgBE
import Derived.Deep.MidRow
namespace Go.Proofs.Ytllllbepnnpeeaa
open Go Go.RowKit Go.Shelf
set_option linter.unusedSimpArgs false
set_option linter.unusedVariables false

theorem PB.away {w : World} {bp K : Nat} {row : Nat → Nat → Value} (h : PB w bp K row) {b : Nat} (hne : bp ≠ b) (cs : Array Value) : PB (w.setRow b cs) bp K row := by
  obtain ⟨c0, hb, hc⟩ := h
  exact ⟨c0, hb.of_same (setRow_other w b bp cs hne), hc⟩
theorem rowS_int {row : Nat → Nat → Value} {i j : Nat} (h : ∃ z : Int, row i j = .int .i64 z) (b : Nat) (y : Int) : ∃ z : Int, rowS row i b (.int .i64 y) i j = .int .i64 z := by
  unfold rowS
  split
  · exact ⟨y, rfl⟩
  · exact h
theorem rowS_nil {row : Nat → Nat → Value} {i j : Nat} (h : ∃ z : Int, row i j = .int .i64 z) (hj : 2 ≤ j) : ∃ z : Int, rowS row i 1 .nilIface i j = .int .i64 z := by
  rw [rowS_ne _ _ _ _ (by omega)]
  exact h
/-- What end gives. -/
def EndP (w : World) (bp K i : Nat) (row : Nat → Nat → Value) (x : OpR) (e : Ending) (w' : World) : Prop :=
  e = .returned (.agg (opC x)) ∧ Fr [bp] w w' ∧ ∃ row', PB w' bp K row' ∧ row' i 1 = .nilIface ∧ (∀ b c, b ≠ i ∨ c = 0 → row' b c = row b c) ∧ ∀ j, 2 ≤ j → j < 8 → (∃ z : Int, row i j = .int .i64 z) → ∃ z : Int, row' i j = .int .i64 z
abbrev opZ : Array Value := #[.int .i64 0, .int .i64 0, .int .i64 0, .int .i64 0, .int .i64 0, .int .i64 0]
theorem range_op {w : World} {bp K i : Nat} {row : Nat → Nat → Value} (h : PB w bp K row) (hi : i < K) {x : OpR} (h2 : row i 2 = .int .i64 x.k) (h3 : row i 3 = .int .i64 x.m) (h4 : row i 4 = .int .i64 x.a) (h5 : row i 5 = .int .i64 x.b) (h6 : row i 6 = .int .i64 x.c) (h7 : row i 7 = .int .i64 x.v) {o : Nat} (ho : i * 8 = o) :
    w.rangeAt bp (o + 2) (opL x) := by
  intro j v hv
  subst ho
  have hj : j < 6 := (List.getElem?_eq_some_iff.1 hv).1
  rw [show i * 8 + 2 + j = i * 8 + (2 + j) by omega, h.cell hi (2 + j) (by omega), ← hv]
  match j, hj with
  | 0, _ => rw [h2]; rfl
  | 1, _ => rw [h3]; rfl
  | 2, _ => rw [h4]; rfl
  | 3, _ => rw [h5]; rfl
  | 4, _ => rw [h6]; rfl
  | 5, _ => rw [h7]; rfl
set_option maxRecDepth 100000 in
set_option maxHeartbeats 8000000 in
theorem pend_pusher {w : World} {bp K i q : Nat} {row : Nat → Nat → Value} {post : List Value} {f : Fra} {cd vl m a b c0 v : Int} (h : PB w bp K row) (hi : i < K) (hob : OB w q 138 post f cd vl) (h1 : row i 1 = .iface 136 (.pointer (some ⟨q, 0, none⟩)))
    (h2 : row i 2 = .int .i64 0) (h3 : row i 3 = .int .i64 m) (h4 : row i 4 = .int .i64 a) (h5 : row i 5 = .int .i64 b) (h6 : row i 6 = .int .i64 c0) (h7 : row i 7 = .int .i64 v) :
    Calls Try.prog 58 #[.pointer (some ⟨bp, i * 8, none⟩)] w (EndP w bp K i row ⟨0, m, a, b, cd, v⟩) := by
  have HH := Lib.hid (And.intro hi (And.intro h2 (And.intro h3 (And.intro h4 (And.intro h5 (And.intro h6 h7))))))
  have HP := Lib.hid (h.below (below_one w (.cells opZ 28)))
  have HOB := Lib.hid (hob.below (below_one w (.cells opZ 28)))
  have HR := Lib.hid (Blk.made w 28 opZ)
  have HF := Lib.hid (show Fr [bp] w (w.alloc (.cells opZ 28)) from Fr.old (below_one w _))
  have H1 := Lib.hid h1
  have HBP := Lib.hid h.lt
  clear h hob hi h1 h2 h3 h4 h5 h6 h7
  go_enter Try.func58, Try.ntmps58
  go_upto_region 1 with fail
  generalize w.alloc (.cells opZ 28) = W at *
  obtain ⟨rb, hrb⟩ : ∃ rb, w.heap.size = rb := ⟨_, rfl⟩
  rw [hrb] at HR ⊢
  have HRB := Lib.hid hrb
  clear hrb
  obtain ⟨o, ho⟩ : ∃ o, i * 8 = o := ⟨_, rfl⟩
  have HO := Lib.hid ho
  have p1 := HP.out.cell HH.out.1 1 (by omega)
  rw [ho, H1.out] at p1
  rw [ho]
  clear ho
  have kr := meth_result_pusher q
  have ks := ahead_result_pusher q
  go_wp2_with fail
  (with_reducible refine (oresult_any HOB.out).mono ?_)
  rintro e W1 ⟨rfl, nd, rfl⟩
  have HP1 := Lib.hid (HP.out.below (below_drewN W nd))
  have HR1 := Lib.hid (HR.out.below (below_drewN W nd))
  have HF1 := Lib.hid (HF.out.drewN nd)
  clear HP HR HF HOB p1 kr ks
  generalize W.drewN nd = W1 at *
  have p1 := HP1.out.cell HH.out.1 1 (by omega)
  rw [HO.out] at p1
  have f1 := HP1.out.free (o + 1)
  go_upto_region 3 with fail
  clear p1 f1
  have hne : rb ≠ bp := by have := HRB.out; have := HBP.out; omega
  have HP2 := Lib.hid (HO.out ▸ HP1.out.put i 1 (by omega) .nilIface : PB (W1.setCell ⟨bp, o + 1, none⟩ .nilIface) bp K (rowS row i 1 .nilIface))
  have HR2 := Lib.hid (HR1.out.away (p := ⟨bp, o + 1, none⟩) hne .nilIface)
  have HF2 := Lib.hid (HF1.out.setCell (p := ⟨bp, o + 1, none⟩) (.inl (by simp)) .nilIface)
  clear HP1 HR1 HF1
  generalize W1.setCell ⟨bp, o + 1, none⟩ .nilIface = W2 at *
  have p6 := HP2.out.cell HH.out.1 6 (by omega)
  rw [HO.out] at p6
  have f6 := HP2.out.free (o + 6)
  go_upto_region 4 with fail
  clear p6 f6
  have HP3 := Lib.hid (HO.out ▸ HP2.out.put i 6 (by omega) (.int .i64 cd) : PB (W2.setCell ⟨bp, o + 6, none⟩ (.int .i64 cd)) bp K (rowS (rowS row i 1 .nilIface) i 6 (.int .i64 cd)))
  have HR3 := Lib.hid (HR2.out.away (p := ⟨bp, o + 6, none⟩) hne (.int .i64 cd))
  have HF3 := Lib.hid (HF2.out.setCell (p := ⟨bp, o + 6, none⟩) (.inl (by simp)) (.int .i64 cd))
  clear HP2 HR2 HF2
  generalize W2.setCell ⟨bp, o + 6, none⟩ (.int .i64 cd) = W3 at *
  have p2 := HP3.out.cell HH.out.1 2 (by omega)
  rw [HO.out, rowS_ne _ _ _ _ (by omega), rowS_ne _ _ _ _ (by omega), HH.out.2.1] at p2
  have HRG := Lib.hid (range_op HP3.out HH.out.1 (x := ⟨0, m, a, b, cd, v⟩) (by rw [rowS_ne _ _ _ _ (by omega), rowS_ne _ _ _ _ (by omega)]; exact HH.out.2.1) (by rw [rowS_ne _ _ _ _ (by omega), rowS_ne _ _ _ _ (by omega)]; exact HH.out.2.2.1) (by rw [rowS_ne _ _ _ _ (by omega), rowS_ne _ _ _ _ (by omega)]; exact HH.out.2.2.2.1) (by rw [rowS_ne _ _ _ _ (by omega), rowS_ne _ _ _ _ (by omega)]; exact HH.out.2.2.2.2.1) (by exact rowS_at ..) (by rw [rowS_ne _ _ _ _ (by omega), rowS_ne _ _ _ _ (by omega)]; exact HH.out.2.2.2.2.2.2) HO.out)
  go_wp2_with (first | (refine wpList_load_mid rfl 28 (.tmp 34) rfl bp (o + 2) rfl (opL ⟨0, m, a, b, cd, v⟩) _ HRG.out Try.underlying28 rfl (by kernel_rfl) ?_) | (refine wpList_store_rowTo rfl 28 (.tmp 2) (.tmp 35) rfl rfl rb (opC ⟨0, m, a, b, cd, v⟩) rfl rfl 28 opZ HR3.out (by kernel_rfl) rfl (by kernel_rfl) ?_))
  refine bodyPost_ret (results_cell_row (P := Try.prog) Try.results58 _ _ rb 28 _ (0, 0) _ rfl (HR3.out.setRow _) Try.underlying28 rfl (by kernel_rfl)) rfl ?_
  have hbr : Fr [bp] W3 (W3.setRow rb (opC ⟨0, m, a, b, cd, v⟩)) ∨ True := .inr trivial
  refine ⟨rfl, ?_, _, PB.away HP3.out (show bp ≠ rb from fun e => hne e.symm) _, (by rw [rowS_ne _ _ _ _ (by omega)]; exact rowS_at ..), fun b' c' hbc => ?_, fun j' h2' h8' hz => ?_⟩
  · have := HF3.out
    exact ⟨this.os, this.tape, this.output, by rw [size_setRow]; exact this.size, fun k hk hn => (setRow_other W3 rb k _ (by have := HRB.out; omega)).trans (this.block k hk hn)⟩
  · rw [rowS_ne _ _ _ _ (by omega), rowS_ne _ _ _ _ (by omega)]
  · exact rowS_int (rowS_nil hz h2') 6 cd
set_option maxRecDepth 100000 in
set_option maxHeartbeats 8000000 in
theorem pend_popper {w : World} {bp K i q : Nat} {row : Nat → Nat → Value} {post : List Value} {f : Fra} {cd vl m a b c0 v : Int} (h : PB w bp K row) (hi : i < K) (hob : OB w q 175 post f cd vl) (h1 : row i 1 = .iface 173 (.pointer (some ⟨q, 0, none⟩)))
    (h2 : row i 2 = .int .i64 1) (h3 : row i 3 = .int .i64 m) (h4 : row i 4 = .int .i64 a) (h5 : row i 5 = .int .i64 b) (h6 : row i 6 = .int .i64 c0) (h7 : row i 7 = .int .i64 v) :
    Calls Try.prog 58 #[.pointer (some ⟨bp, i * 8, none⟩)] w (EndP w bp K i row ⟨1, m, a, b, cd, vl⟩) := by
  have HH := Lib.hid (And.intro hi (And.intro h2 (And.intro h3 (And.intro h4 (And.intro h5 (And.intro h6 h7))))))
  have HP := Lib.hid (h.below (below_one w (.cells opZ 28)))
  have HOB := Lib.hid (hob.below (below_one w (.cells opZ 28)))
  have HR := Lib.hid (Blk.made w 28 opZ)
  have HF := Lib.hid (show Fr [bp] w (w.alloc (.cells opZ 28)) from Fr.old (below_one w _))
  have H1 := Lib.hid h1
  have HBP := Lib.hid h.lt
  clear h hob hi h1 h2 h3 h4 h5 h6 h7
  go_enter Try.func58, Try.ntmps58
  go_upto_region 1 with fail
  generalize w.alloc (.cells opZ 28) = W at *
  obtain ⟨rb, hrb⟩ : ∃ rb, w.heap.size = rb := ⟨_, rfl⟩
  rw [hrb] at HR ⊢
  have HRB := Lib.hid hrb
  clear hrb
  obtain ⟨o, ho⟩ : ∃ o, i * 8 = o := ⟨_, rfl⟩
  have HO := Lib.hid ho
  have p1 := HP.out.cell HH.out.1 1 (by omega)
  rw [ho, H1.out] at p1
  rw [ho]
  clear ho
  have kr := meth_result_popper q
  have ks := ahead_result_popper q
  go_wp2_with fail
  (with_reducible refine (oresult_any HOB.out).mono ?_)
  rintro e W1 ⟨rfl, nd, rfl⟩
  have HP1 := Lib.hid (HP.out.below (below_drewN W nd))
  have HR1 := Lib.hid (HR.out.below (below_drewN W nd))
  have HF1 := Lib.hid (HF.out.drewN nd)
  clear HP HR HF HOB p1 kr ks
  generalize W.drewN nd = W1 at *
  have p1 := HP1.out.cell HH.out.1 1 (by omega)
  rw [HO.out] at p1
  have f1 := HP1.out.free (o + 1)
  go_upto_region 3 with fail
  clear p1 f1
  have hne : rb ≠ bp := by have := HRB.out; have := HBP.out; omega
  have HP2 := Lib.hid (HO.out ▸ HP1.out.put i 1 (by omega) .nilIface : PB (W1.setCell ⟨bp, o + 1, none⟩ .nilIface) bp K (rowS row i 1 .nilIface))
  have HR2 := Lib.hid (HR1.out.away (p := ⟨bp, o + 1, none⟩) hne .nilIface)
  have HF2 := Lib.hid (HF1.out.setCell (p := ⟨bp, o + 1, none⟩) (.inl (by simp)) .nilIface)
  clear HP1 HR1 HF1
  generalize W1.setCell ⟨bp, o + 1, none⟩ .nilIface = W2 at *
  have p6 := HP2.out.cell HH.out.1 6 (by omega)
  rw [HO.out] at p6
  have f6 := HP2.out.free (o + 6)
  go_upto_region 4 with fail
  clear p6 f6
  have HP3 := Lib.hid (HO.out ▸ HP2.out.put i 6 (by omega) (.int .i64 cd) : PB (W2.setCell ⟨bp, o + 6, none⟩ (.int .i64 cd)) bp K (rowS (rowS row i 1 .nilIface) i 6 (.int .i64 cd)))
  have HR3 := Lib.hid (HR2.out.away (p := ⟨bp, o + 6, none⟩) hne (.int .i64 cd))
  have HF3 := Lib.hid (HF2.out.setCell (p := ⟨bp, o + 6, none⟩) (.inl (by simp)) (.int .i64 cd))
  clear HP2 HR2 HF2
  generalize W2.setCell ⟨bp, o + 6, none⟩ (.int .i64 cd) = W3 at *
  have p2 := HP3.out.cell HH.out.1 2 (by omega)
  rw [HO.out, rowS_ne _ _ _ _ (by omega), rowS_ne _ _ _ _ (by omega), HH.out.2.1] at p2
  have p7 := HP3.out.cell HH.out.1 7 (by omega)
  rw [HO.out] at p7
  have f7 := HP3.out.free (o + 7)
  go_upto_region 6 with fail
  clear p2 p7 f7
  have HP4 := Lib.hid (HO.out ▸ HP3.out.put i 7 (by omega) (.int .i64 vl) : PB (W3.setCell ⟨bp, o + 7, none⟩ (.int .i64 vl)) bp K (rowS (rowS (rowS row i 1 .nilIface) i 6 (.int .i64 cd)) i 7 (.int .i64 vl)))
  have HR4 := Lib.hid (HR3.out.away (p := ⟨bp, o + 7, none⟩) hne (.int .i64 vl))
  have HF4 := Lib.hid (HF3.out.setCell (p := ⟨bp, o + 7, none⟩) (.inl (by simp)) (.int .i64 vl))
  clear HP3 HR3 HF3
  generalize W3.setCell ⟨bp, o + 7, none⟩ (.int .i64 vl) = W4 at *
  have HRG := Lib.hid (range_op HP4.out HH.out.1 (x := ⟨1, m, a, b, cd, vl⟩) (by rw [rowS_ne _ _ _ _ (by omega), rowS_ne _ _ _ _ (by omega), rowS_ne _ _ _ _ (by omega)]; exact HH.out.2.1) (by rw [rowS_ne _ _ _ _ (by omega), rowS_ne _ _ _ _ (by omega), rowS_ne _ _ _ _ (by omega)]; exact HH.out.2.2.1) (by rw [rowS_ne _ _ _ _ (by omega), rowS_ne _ _ _ _ (by omega), rowS_ne _ _ _ _ (by omega)]; exact HH.out.2.2.2.1) (by rw [rowS_ne _ _ _ _ (by omega), rowS_ne _ _ _ _ (by omega), rowS_ne _ _ _ _ (by omega)]; exact HH.out.2.2.2.2.1) (by rw [rowS_ne _ _ _ _ (by omega)]; exact rowS_at ..) (by exact rowS_at ..) HO.out)
  go_wp2_with (first | (refine wpList_load_mid rfl 28 (.tmp 34) rfl bp (o + 2) rfl (opL ⟨1, m, a, b, cd, vl⟩) _ HRG.out Try.underlying28 rfl (by kernel_rfl) ?_) | (refine wpList_store_rowTo rfl 28 (.tmp 2) (.tmp 35) rfl rfl rb (opC ⟨1, m, a, b, cd, vl⟩) rfl rfl 28 opZ HR4.out (by kernel_rfl) rfl (by kernel_rfl) ?_))
  refine bodyPost_ret (results_cell_row (P := Try.prog) Try.results58 _ _ rb 28 _ (0, 0) _ rfl (HR4.out.setRow _) Try.underlying28 rfl (by kernel_rfl)) rfl ?_
  have hbr : Fr [bp] W4 (W4.setRow rb (opC ⟨1, m, a, b, cd, vl⟩)) ∨ True := .inr trivial
  refine ⟨rfl, ?_, _, PB.away HP4.out (show bp ≠ rb from fun e => hne e.symm) _, (by rw [rowS_ne _ _ _ _ (by omega), rowS_ne _ _ _ _ (by omega)]; exact rowS_at ..), fun b' c' hbc => ?_, fun j' h2' h8' hz => ?_⟩
  · have := HF4.out
    exact ⟨this.os, this.tape, this.output, by rw [size_setRow]; exact this.size, fun k hk hn => (setRow_other W4 rb k _ (by have := HRB.out; omega)).trans (this.block k hk hn)⟩
  · rw [rowS_ne _ _ _ _ (by omega), rowS_ne _ _ _ _ (by omega), rowS_ne _ _ _ _ (by omega)]
  · exact rowS_int (rowS_int (rowS_nil hz h2') 6 cd) 7 vl
set_option maxRecDepth 100000 in
set_option maxHeartbeats 8000000 in
theorem pend_stealer {w : World} {bp K i q : Nat} {row : Nat → Nat → Value} {post : List Value} {f : Fra} {cd vl m a b c0 v : Int} (h : PB w bp K row) (hi : i < K) (hob : OB w q 141 post f cd vl) (h1 : row i 1 = .iface 139 (.pointer (some ⟨q, 0, none⟩)))
    (h2 : row i 2 = .int .i64 2) (h3 : row i 3 = .int .i64 m) (h4 : row i 4 = .int .i64 a) (h5 : row i 5 = .int .i64 b) (h6 : row i 6 = .int .i64 c0) (h7 : row i 7 = .int .i64 v) :
    Calls Try.prog 58 #[.pointer (some ⟨bp, i * 8, none⟩)] w (EndP w bp K i row ⟨2, m, a, b, cd, vl⟩) := by
  have HH := Lib.hid (And.intro hi (And.intro h2 (And.intro h3 (And.intro h4 (And.intro h5 (And.intro h6 h7))))))
  have HP := Lib.hid (h.below (below_one w (.cells opZ 28)))
  have HOB := Lib.hid (hob.below (below_one w (.cells opZ 28)))
  have HR := Lib.hid (Blk.made w 28 opZ)
  have HF := Lib.hid (show Fr [bp] w (w.alloc (.cells opZ 28)) from Fr.old (below_one w _))
  have H1 := Lib.hid h1
  have HBP := Lib.hid h.lt
  clear h hob hi h1 h2 h3 h4 h5 h6 h7
  go_enter Try.func58, Try.ntmps58
  go_upto_region 1 with fail
  generalize w.alloc (.cells opZ 28) = W at *
  obtain ⟨rb, hrb⟩ : ∃ rb, w.heap.size = rb := ⟨_, rfl⟩
  rw [hrb] at HR ⊢
  have HRB := Lib.hid hrb
  clear hrb
  obtain ⟨o, ho⟩ : ∃ o, i * 8 = o := ⟨_, rfl⟩
  have HO := Lib.hid ho
  have p1 := HP.out.cell HH.out.1 1 (by omega)
  rw [ho, H1.out] at p1
  rw [ho]
  clear ho
  have kr := meth_result_stealer q
  have ks := ahead_result_stealer q
  go_wp2_with fail
  (with_reducible refine (oresult_any HOB.out).mono ?_)
  rintro e W1 ⟨rfl, nd, rfl⟩
  have HP1 := Lib.hid (HP.out.below (below_drewN W nd))
  have HR1 := Lib.hid (HR.out.below (below_drewN W nd))
  have HF1 := Lib.hid (HF.out.drewN nd)
  clear HP HR HF HOB p1 kr ks
  generalize W.drewN nd = W1 at *
  have p1 := HP1.out.cell HH.out.1 1 (by omega)
  rw [HO.out] at p1
  have f1 := HP1.out.free (o + 1)
  go_upto_region 3 with fail
  clear p1 f1
  have hne : rb ≠ bp := by have := HRB.out; have := HBP.out; omega
  have HP2 := Lib.hid (HO.out ▸ HP1.out.put i 1 (by omega) .nilIface : PB (W1.setCell ⟨bp, o + 1, none⟩ .nilIface) bp K (rowS row i 1 .nilIface))
  have HR2 := Lib.hid (HR1.out.away (p := ⟨bp, o + 1, none⟩) hne .nilIface)
  have HF2 := Lib.hid (HF1.out.setCell (p := ⟨bp, o + 1, none⟩) (.inl (by simp)) .nilIface)
  clear HP1 HR1 HF1
  generalize W1.setCell ⟨bp, o + 1, none⟩ .nilIface = W2 at *
  have p6 := HP2.out.cell HH.out.1 6 (by omega)
  rw [HO.out] at p6
  have f6 := HP2.out.free (o + 6)
  go_upto_region 4 with fail
  clear p6 f6
  have HP3 := Lib.hid (HO.out ▸ HP2.out.put i 6 (by omega) (.int .i64 cd) : PB (W2.setCell ⟨bp, o + 6, none⟩ (.int .i64 cd)) bp K (rowS (rowS row i 1 .nilIface) i 6 (.int .i64 cd)))
  have HR3 := Lib.hid (HR2.out.away (p := ⟨bp, o + 6, none⟩) hne (.int .i64 cd))
  have HF3 := Lib.hid (HF2.out.setCell (p := ⟨bp, o + 6, none⟩) (.inl (by simp)) (.int .i64 cd))
  clear HP2 HR2 HF2
  generalize W2.setCell ⟨bp, o + 6, none⟩ (.int .i64 cd) = W3 at *
  have p2 := HP3.out.cell HH.out.1 2 (by omega)
  rw [HO.out, rowS_ne _ _ _ _ (by omega), rowS_ne _ _ _ _ (by omega), HH.out.2.1] at p2
  have p7 := HP3.out.cell HH.out.1 7 (by omega)
  rw [HO.out] at p7
  have f7 := HP3.out.free (o + 7)
  go_upto_region 6 with fail
  clear p2 p7 f7
  have HP4 := Lib.hid (HO.out ▸ HP3.out.put i 7 (by omega) (.int .i64 vl) : PB (W3.setCell ⟨bp, o + 7, none⟩ (.int .i64 vl)) bp K (rowS (rowS (rowS row i 1 .nilIface) i 6 (.int .i64 cd)) i 7 (.int .i64 vl)))
  have HR4 := Lib.hid (HR3.out.away (p := ⟨bp, o + 7, none⟩) hne (.int .i64 vl))
  have HF4 := Lib.hid (HF3.out.setCell (p := ⟨bp, o + 7, none⟩) (.inl (by simp)) (.int .i64 vl))
  clear HP3 HR3 HF3
  generalize W3.setCell ⟨bp, o + 7, none⟩ (.int .i64 vl) = W4 at *
  have HRG := Lib.hid (range_op HP4.out HH.out.1 (x := ⟨2, m, a, b, cd, vl⟩) (by rw [rowS_ne _ _ _ _ (by omega), rowS_ne _ _ _ _ (by omega), rowS_ne _ _ _ _ (by omega)]; exact HH.out.2.1) (by rw [rowS_ne _ _ _ _ (by omega), rowS_ne _ _ _ _ (by omega), rowS_ne _ _ _ _ (by omega)]; exact HH.out.2.2.1) (by rw [rowS_ne _ _ _ _ (by omega), rowS_ne _ _ _ _ (by omega), rowS_ne _ _ _ _ (by omega)]; exact HH.out.2.2.2.1) (by rw [rowS_ne _ _ _ _ (by omega), rowS_ne _ _ _ _ (by omega), rowS_ne _ _ _ _ (by omega)]; exact HH.out.2.2.2.2.1) (by rw [rowS_ne _ _ _ _ (by omega)]; exact rowS_at ..) (by exact rowS_at ..) HO.out)
  go_wp2_with (first | (refine wpList_load_mid rfl 28 (.tmp 34) rfl bp (o + 2) rfl (opL ⟨2, m, a, b, cd, vl⟩) _ HRG.out Try.underlying28 rfl (by kernel_rfl) ?_) | (refine wpList_store_rowTo rfl 28 (.tmp 2) (.tmp 35) rfl rfl rb (opC ⟨2, m, a, b, cd, vl⟩) rfl rfl 28 opZ HR4.out (by kernel_rfl) rfl (by kernel_rfl) ?_))
  refine bodyPost_ret (results_cell_row (P := Try.prog) Try.results58 _ _ rb 28 _ (0, 0) _ rfl (HR4.out.setRow _) Try.underlying28 rfl (by kernel_rfl)) rfl ?_
  have hbr : Fr [bp] W4 (W4.setRow rb (opC ⟨2, m, a, b, cd, vl⟩)) ∨ True := .inr trivial
  refine ⟨rfl, ?_, _, PB.away HP4.out (show bp ≠ rb from fun e => hne e.symm) _, (by rw [rowS_ne _ _ _ _ (by omega), rowS_ne _ _ _ _ (by omega)]; exact rowS_at ..), fun b' c' hbc => ?_, fun j' h2' h8' hz => ?_⟩
  · have := HF4.out
    exact ⟨this.os, this.tape, this.output, by rw [size_setRow]; exact this.size, fun k hk hn => (setRow_other W4 rb k _ (by have := HRB.out; omega)).trans (this.block k hk hn)⟩
  · rw [rowS_ne _ _ _ _ (by omega), rowS_ne _ _ _ _ (by omega), rowS_ne _ _ _ _ (by omega)]
  · exact rowS_int (rowS_int (rowS_nil hz h2') 6 cd) 7 vl
end Go.Proofs.Ytllllbepnnpeeaa

namespace Go.Proofs.Ytllllbepnnpeeaa
open Go Go.RowKit Go.Shelf
set_option linter.unusedSimpArgs false
set_option linter.unusedVariables false

/-- The row of a player. -/
structure PlC (w : World) (B : Nat) (rw_ : Nat → Value) (i q : Nat) (p : Plr) : Prop where
  ac : AcR w B (rw_ 0) p.acts
  mv : rw_ 1 = mval q p.x.m
  nt : ∀ j, 2 ≤ j → j < 8 → ∃ z : Int, rw_ j = .int .i64 z
  on : p.x.m ≠ .no → rw_ 2 = .int .i64 p.x.m.kind ∧ rw_ 3 = .int .i64 i ∧ rw_ 4 = .int .i64 p.x.sn ∧ rw_ 7 = .int .i64 p.x.vl
/-- The cells of the game. -/
abbrev gmC (p C bp K pc : Nat) (now : Int) (ov : Value) : Array Value := #[.pointer (some ⟨p, 0, none⟩), .int .i64 0, .int .i64 1, .int .i64 2, .int .i64 C, .slice (some ⟨bp, 0, none⟩) K pc, .int .i64 now, ov]
/-- The game. -/
structure GW (w0 w : World) (gb p m k g cap bp K pc C : Nat) (q : Nat → Nat) (row : Nat → Nat → Value) (ov : Value) (S : PlS) : Prop where
  gm : Blk w gb 99 (gmC p C bp K pc S.now ov)
  pe : PE w p m k g cap S.s 0 0 hd0 (.slice none 0 0) (.slice none 0 0)
  n : S.s.N
  pb : PB w bp K row
  out : OwnG w w0.heap.size 28 6 ov (S.out.map opL)
  len : S.P.length = K
  pl : ∀ i, i < K → PlC w w0.heap.size (row i) i (q i) (S.P.getD i .no)
  mo : ∀ i, i < K → MO w (q i) (S.P.getD i .no).x.m
  ap : ∀ i j, i < K → j < K → i ≠ j → (S.P.getD i .no).x.m ≠ .no → (S.P.getD j .no).x.m ≠ .no → q i ≠ q j
  lo : ∀ i, i < K → (S.P.getD i .no).x.m ≠ .no → w0.heap.size ≤ q i
  lb : w0.heap.size ≤ gb ∧ w0.heap.size ≤ p ∧ w0.heap.size ≤ m ∧ w0.heap.size ≤ k ∧ w0.heap.size ≤ g ∧ w0.heap.size ≤ bp
  b : Below w0.heap.size w0 w
section
variable {w0 w w' : World} {gb p m k g cap bp K pc C : Nat} {q : Nat → Nat} {row row' : Nat → Nat → Value} {ov : Value} {S : PlS}
theorem PlC.fr {B i x : Nat} {r : Nat → Value} {P : Plr} {T : List Nat} (h : PlC w B r i x P) (hf : Fr T w w') (hT : ∀ g cur, Blk w g 78 cur → g ∉ T) : PlC w' B r i x P := ⟨h.ac.fr hf hT, h.mv, h.nt, h.on⟩
theorem PlC.other {B i x y : Nat} {r : Nat → Value} {P : Plr} (h : PlC w B r i x P) (e : P.x.m = .no) : PlC w B r i y P := ⟨h.ac, by rw [h.mv, e]; rfl, h.nt, h.on⟩
theorem GW.hg (h : GW w0 w gb p m k g cap bp K pc C q row ov S) : ∃ cs, Blk w g 39 cs := by
  obtain ⟨cur, hb, _⟩ := h.pe.mem.row.blk
  exact ⟨cur, hb⟩
/-- A block of another type is none of the environment's. -/
theorem GW.env (h : GW w0 w gb p m k g cap bp K pc C q row ov S) {b : Nat} {t : TypeId} {cs : Array Value} (hb : Blk w b t cs) (h1 : t ≠ 65) (h2 : t ≠ 134) (h3 : t ≠ 169) (h4 : t ≠ 39) : p ≠ b ∧ m ≠ b ∧ k ≠ b ∧ g ≠ b := by
  obtain ⟨cs2, hg⟩ := h.hg
  exact ⟨(hb.apart h.pe.blk h1).symm, (hb.apart h.pe.mem.blk h2).symm, (hb.apart h.pe.clk h3).symm, (hb.apart hg h4).symm⟩
theorem GW.same (h : GW w0 w gb p m k g cap bp K pc C q row ov S) (hb : Below w.heap.size w w') : GW w0 w' gb p m k g cap bp K pc C q row ov S :=
  ⟨h.gm.below hb, h.pe.below hb, h.n, h.pb.below hb, h.out.below hb, h.len, fun i hi => (h.pl i hi).fr (Fr.old (S := []) hb) (by simp), fun i hi => (h.mo i hi).below hb, h.ap, h.lo, h.lb, h.b.trans (hb.mono h.b.size)⟩
/-- A player has changed. -/
theorem GW.one (h : GW w0 w gb p m k g cap bp K pc C q row ov S) {i x : Nat} {P : Plr} (hi : i < K) (hf : Fr [bp] w w') (hp : PB w' bp K row') (hrow : ∀ b c, b ≠ i → row' b c = row b c) (pl : PlC w' w0.heap.size (row' i) i x P) (mo : MO w' x P.x.m)
    (hx : P.x.m ≠ .no → w0.heap.size ≤ x ∧ ∀ j, j < K → j ≠ i → (S.P.getD j .no).x.m ≠ .no → q j ≠ x) : GW w0 w' gb p m k g cap bp K pc C (fun b => if b = i then x else q b) row' ov ⟨S.s, S.P.set i P, S.now, S.out⟩ := by
  obtain ⟨cs0, hb0, hc0⟩ := h.pb
  obtain ⟨n1, n2, n3, n4⟩ := h.env hb0 (by decide) (by decide) (by decide) (by decide)
  have hl := h.len
  have e1 : (S.P.set i P).getD i .no = P := set_at _ _ _ _ (by omega)
  have e2 : ∀ b, b ≠ i → (S.P.set i P).getD b .no = S.P.getD b .no := fun b hb => set_off _ _ _ _ _ (fun e => hb e.symm)
  have hact : ∀ g cur, Blk w g 78 cur → g ∉ [bp] := fun g cur hg => by simpa using hg.apart hb0 (by decide)
  refine ⟨h.gm.of_same (hf.block gb h.gm.lt (by simpa using h.gm.apart hb0 (by decide))), h.pe.fr hf (by simpa using n1) (by simpa using n2) (by simpa using n3) (by simpa using n4), h.n, hp, h.out.same (fun b hb => ?_), by show (S.P.set i P).length = K; rw [List.length_set]; exact hl, fun b hb => ?_, fun b hb => ?_, fun b c hb hc hbc m1 m2 => ?_, fun b hb m1 => ?_, h.lb, below_of_fr h.b hf (fun y hy => by simp at hy; rw [hy]; exact h.lb.2.2.2.2.2)⟩
  · obtain ⟨cur, hc⟩ := h.out.ty b hb
    exact hf.block b hc.lt (by simpa using hc.apart hb0 (by decide))
  · by_cases e : b = i
    · subst e
      show PlC w' _ (row' b) b (if b = b then x else q b) ((S.P.set b P).getD b .no)
      rw [if_pos rfl, e1]
      exact pl
    · show PlC w' _ (row' b) b (if b = i then x else q b) ((S.P.set i P).getD b .no)
      rw [if_neg e, e2 b e, show row' b = row b from funext fun c => hrow b c e]
      exact (h.pl b hb).fr hf hact
  · by_cases e : b = i
    · subst e
      show MO w' (if b = b then x else q b) ((S.P.set b P).getD b .no).x.m
      rw [if_pos rfl, e1]
      exact mo
    · show MO w' (if b = i then x else q b) ((S.P.set i P).getD b .no).x.m
      rw [if_neg e, e2 b e]
      exact (h.mo b hb).off hb0 (by decide) (by decide) (by decide) hf
  · replace m1 : ((S.P.set i P).getD b .no).x.m ≠ .no := m1
    replace m2 : ((S.P.set i P).getD c .no).x.m ≠ .no := m2
    show (if b = i then x else q b) ≠ (if c = i then x else q c)
    by_cases eb : b = i
    · subst eb
      have hc' : c ≠ b := fun e => hbc e.symm
      rw [e1] at m1
      rw [e2 c hc'] at m2
      rw [if_pos rfl, if_neg hc']
      exact ((hx m1).2 c hc hc' m2).symm
    · rw [if_neg eb]
      rw [e2 b eb] at m1
      by_cases ec : c = i
      · subst ec
        rw [e1] at m2
        rw [if_pos rfl]
        exact (hx m2).2 b hb eb m1
      · rw [if_neg ec]
        rw [e2 c ec] at m2
        exact h.ap b c hb hc hbc m1 m2
  · replace m1 : ((S.P.set i P).getD b .no).x.m ≠ .no := m1
    show _ ≤ (if b = i then x else q b)
    by_cases e : b = i
    · subst e
      rw [e1] at m1
      rw [if_pos rfl]
      exact (hx m1).1
    · rw [e2 b e] at m1
      rw [if_neg e]
      exact h.lo b hb m1
/-- A machine has made a step. -/
theorem GW.step (h : GW w0 w gb p m k g cap bp K pc C q row ov S) {i : Nat} {s' : St} {X : Mach} {ty : TypeId} {post : List Value} {f : Fra} (hi : i < K) (hn : (S.P.getD i .no).x.m ≠ .no) (ho : OB w (q i) ty post f 0 0) (ht : ty = 138 ∨ ty = 175 ∨ ty = 141)
    (hp : PE w' p m k g cap s' 0 0 hd0 (.slice none 0 0) (.slice none 0 0)) (hf : Fr [m, g, q i] w w') (hN : s'.N) (hX : MO w' (q i) X) (hv : mval (q i) X = mval (q i) (S.P.getD i .no).x.m) (hk : X.kind = (S.P.getD i .no).x.m.kind) :
    GW w0 w' gb p m k g cap bp K pc C q row ov ⟨s', S.P.set i ⟨(S.P.getD i .no).acts, ⟨X, (S.P.getD i .no).x.sn, (S.P.getD i .no).x.vl⟩⟩, S.now, S.out⟩ := by
  obtain ⟨cs2, hgb⟩ := h.hg
  have hl := h.len
  have e1 : ∀ P : Plr, (S.P.set i P).getD i .no = P := fun P => set_at _ _ _ _ (by omega)
  have e2 : ∀ (P : Plr) b, b ≠ i → (S.P.set i P).getD b .no = S.P.getD b .no := fun P b hb => set_off _ _ _ _ _ (fun e => hb e.symm)
  have keep : ∀ {b : Nat} {t : TypeId} {cs : Array Value}, Blk w b t cs → t ≠ 134 → t ≠ 39 → (t ≠ 138 ∧ t ≠ 175 ∧ t ≠ 141) → b ∉ [m, g, q i] := fun {b t cs} hb n1 n2 n3 => by
    simp only [List.mem_cons, List.not_mem_nil, or_false, not_or]
    refine ⟨hb.apart h.pe.mem.blk n1, hb.apart hgb n2, hb.apart ho.blk ?_⟩
    rcases ht with rfl | rfl | rfl
    · exact n3.1
    · exact n3.2.1
    · exact n3.2.2
  have hact : ∀ g0 cur, Blk w g0 78 cur → g0 ∉ [m, g, q i] := fun g0 cur hg => keep hg (by decide) (by decide) (by decide)
  have hno : X ≠ .no := fun e => by
    subst e
    have := mval_live (q i) hn
    obtain ⟨ty2, hty⟩ := this
    rw [hty] at hv
    cases hv
  obtain ⟨cs0, hb0, hc0⟩ := h.pb
  refine ⟨h.gm.of_same (hf.block gb h.gm.lt (keep h.gm (by decide) (by decide) (by decide))), hp, hN, ⟨cs0, hb0.of_same (hf.block bp hb0.lt (keep hb0 (by decide) (by decide) (by decide))), hc0⟩, h.out.same (fun b hb => ?_), by show (S.P.set i _).length = K; rw [List.length_set]; exact hl, fun b hb => ?_, fun b hb => ?_, fun b c hb hc hbc m1 m2 => ?_, fun b hb m1 => ?_, h.lb, below_of_fr h.b hf (fun y hy => ?_)⟩
  · obtain ⟨cur, hc⟩ := h.out.ty b hb
    exact hf.block b hc.lt (keep hc (by decide) (by decide) (by decide))
  · have h0 := (h.pl b hb).fr hf hact
    by_cases e : b = i
    · subst e
      show PlC w' _ (row b) b (q b) ((S.P.set b _).getD b .no)
      rw [e1]
      exact ⟨h0.ac, h0.mv.trans hv.symm, h0.nt, fun _ => by
        have := h0.on hn
        show row b 2 = .int .i64 X.kind ∧ _
        rw [hk]
        exact this⟩
    · show PlC w' _ (row b) b (q b) ((S.P.set i _).getD b .no)
      rw [e2 _ b e]
      exact h0
  · by_cases e : b = i
    · subst e
      show MO w' (q b) ((S.P.set b _).getD b .no).x.m
      rw [e1]
      exact hX
    · show MO w' (q b) ((S.P.set i _).getD b .no).x.m
      rw [e2 _ b e]
      refine (h.mo b hb).fr hf (fun n1 hob => ?_)
      obtain ⟨ty2, post2, f2, ho2⟩ := hob
      obtain ⟨m1, m2, m3, m4⟩ := ho2.ne h.pe
      simp only [List.mem_cons, List.not_mem_nil, or_false, not_or]
      exact ⟨m2, m4, h.ap b i hb hi e n1 hn⟩
  · refine h.ap b c hb hc hbc ?_ ?_
    · by_cases e : b = i
      · rw [e]; exact hn
      · replace m1 : ((S.P.set i _).getD b .no).x.m ≠ .no := m1
        rw [e2 _ b e] at m1; exact m1
    · by_cases e : c = i
      · rw [e]; exact hn
      · replace m2 : ((S.P.set i _).getD c .no).x.m ≠ .no := m2
        rw [e2 _ c e] at m2; exact m2
  · refine h.lo b hb ?_
    by_cases e : b = i
    · rw [e]; exact hn
    · replace m1 : ((S.P.set i _).getD b .no).x.m ≠ .no := m1
      rw [e2 _ b e] at m1; exact m1
  · simp only [List.mem_cons, List.not_mem_nil, or_false] at hy
    rcases hy with rfl | rfl | rfl
    · exact h.lb.2.2.1
    · exact h.lb.2.2.2.2.1
    · exact h.lo i hi hn
/-- Another count. -/
theorem GW.count (h : GW w0 w gb p m k g cap bp K pc C q row ov S) (now : Nat) : GW w0 (w.setCell ⟨gb, 6, none⟩ (.int .i64 now)) gb p m k g cap bp K pc C q row ov ⟨S.s, S.P, now, S.out⟩ := by
  have hf : Fr [gb] w (w.setCell ⟨gb, 6, none⟩ (.int .i64 now)) := (Fr.refl _ _).setCell (by simp) _
  obtain ⟨n1, n2, n3, n4⟩ := h.env h.gm (by decide) (by decide) (by decide) (by decide)
  obtain ⟨cs0, hb0, hc0⟩ := h.pb
  refine ⟨h.gm.put 6 (.int .i64 now), h.pe.fr hf (by simpa using n1) (by simpa using n2) (by simpa using n3) (by simpa using n4), h.n, ⟨cs0, hb0.of_same (hf.block bp hb0.lt (by simpa using hb0.apart h.gm (by decide))), hc0⟩, h.out.same (fun b hb => ?_), h.len, fun i hi => (h.pl i hi).fr hf (fun g0 cur hg => by simpa using hg.apart h.gm (by decide)), fun i hi => (h.mo i hi).off h.gm (by decide) (by decide) (by decide) hf, h.ap, h.lo, h.lb, below_of_fr h.b hf (fun y hy => by simp at hy; rw [hy]; exact h.lb.1)⟩
  obtain ⟨cur, hc⟩ := h.out.ty b hb
  exact hf.block b hc.lt (by simpa using hc.apart h.gm (by decide))
/-- One more is done: the list has grown and is stored. -/
theorem GW.outs (h : GW w0 w gb p m k g cap bp K pc C q row ov S) {ov' : Value} {x : OpR} (hg : w.grownBy w' ov.ownBlock) (ho : OwnG w' w0.heap.size 28 6 ov' (S.out.map opL ++ [opL x])) :
    GW w0 (w'.setCell ⟨gb, 7, none⟩ ov') gb p m k g cap bp K pc C q row ov' ⟨S.s, S.P, S.now, S.out ++ [x]⟩ := by
  have hob : ∀ {b : Nat} {t : TypeId} {cs : Array Value}, Blk w b t cs → t ≠ 28 → b ∉ ov.ownBlock.toList := fun {b t cs} hb ht hm => by
    rw [Option.mem_toList] at hm
    obtain ⟨cur, hc⟩ := h.out.ty b hm
    exact absurd rfl (hb.apart hc ht)
  have hf1 : Fr ov.ownBlock.toList w w' := ⟨hg.os, hg.tape, hg.output, hg.size, fun k hk hn => hg.block k hk (fun e => hn (by simp [← e]))⟩
  have hf2 : Fr (gb :: ov.ownBlock.toList) w (w'.setCell ⟨gb, 7, none⟩ ov') := (hf1.mono (fun k hk => List.mem_cons_of_mem _ hk)).setCell (.inl (by simp)) ov'
  obtain ⟨n1, n2, n3, n4⟩ := h.env h.gm (by decide) (by decide) (by decide) (by decide)
  obtain ⟨cs2, hgb⟩ := h.hg
  obtain ⟨cs0, hb0, hc0⟩ := h.pb
  have hgm : Blk w' gb _ _ := h.gm.of_same (hf1.block gb h.gm.lt (hob h.gm (by decide)))
  have no : ∀ {b : Nat}, b ≠ gb → b ∉ ov.ownBlock.toList → b ∉ gb :: ov.ownBlock.toList := fun {b} h1 h2 hm => by
    rcases List.mem_cons.1 hm with e | e
    · exact h1 e
    · exact h2 e
  refine ⟨hgm.put 7 ov', h.pe.fr hf2 (no n1 (hob h.pe.blk (by decide))) (no n2 (hob h.pe.mem.blk (by decide))) (no n3 (hob h.pe.clk (by decide))) (no n4 (hob hgb (by decide))), h.n, ⟨cs0, hb0.of_same (hf2.block bp hb0.lt (no (hb0.apart h.gm (by decide)) (hob hb0 (by decide)))), hc0⟩, ?_, h.len, fun i hi => (h.pl i hi).fr hf2 (fun g0 cur hg0 => no (hg0.apart h.gm (by decide)) (hob hg0 (by decide))), fun i hi => (h.mo i hi).fr hf2 (fun hn hobx => ?_), h.ap, h.lo, h.lb, below_of_fr h.b hf2 (fun y hy => ?_)⟩
  · show OwnG _ _ _ _ _ ((S.out ++ [x]).map opL)
    rw [List.map_append]
    refine ho.same (fun b hb => Below.heap_setCell _ _ _ _ (fun e => ?_))
    subst e
    obtain ⟨cur, hc⟩ := ho.ty b hb
    exact absurd rfl (hgm.apart hc (by decide))
  · obtain ⟨ty2, post2, f2, ho2, hty⟩ := (h.mo i hi).ob hn
    refine no (ho2.blk.apart h.gm ?_) (hob ho2.blk ?_)
    · rcases hty with rfl | rfl | rfl <;> decide
    · rcases hty with rfl | rfl | rfl <;> decide
  · rcases List.mem_cons.1 hy with rfl | hy
    · exact h.lb.1
    · rw [Option.mem_toList] at hy
      exact (h.out.lt y hy).1
end
end Go.Proofs.Ytllllbepnnpeeaa
