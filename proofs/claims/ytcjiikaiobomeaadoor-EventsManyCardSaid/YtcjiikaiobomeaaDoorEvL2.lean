/-
  The walk of the statement EventsMany.
-/
import Derived.Test.YtcjiikaiobomeaaDoorEvAw
import Derived.Test.YtcjiikaiobomeaaDoorEvP
import Derived.Test.YtcjiikaiobomeaaDoorKeepN
import Derived.Test.YtcjiikaiobomeaaDoorSeq
import Derived.OwnWalk
namespace Go.Proofs.YtcjiikaiobomeaaDoor
open Go Go.RowKit
set_option linter.unusedSimpArgs false

theorem madeV (n : Nat) : (madeCells #[.int .i64 0, .int .i64 0, .int .i64 0, .int .i64 0, .int .i64 0] (n * 5)).toList = cellsV (List.replicate n evNil) := by
  have hz : ∀ (n i : Nat), i < n * 5 → (cellsV (List.replicate n evNil))[i]? = some (.int .i64 0) := by
    intro n
    induction n with
    | zero => intro i hi; omega
    | succ n ih =>
      intro i hi
      match i with
      | 0 => rfl
      | 1 => rfl
      | 2 => rfl
      | 3 => rfl
      | 4 => rfl
      | i + 5 =>
        have := ih i (by omega)
        simpa [List.replicate_succ, cellsV] using this
  apply List.ext_getElem?
  intro i
  by_cases hi : i < n * 5
  · rw [hz n i hi]
    simp only [madeCells, Array.toList_map, List.getElem?_map, Array.toList_range, List.getElem?_range hi, Option.map_some]
    have h5 : i % 5 < 5 := Nat.mod_lt _ (by omega)
    have : i % 5 = 0 ∨ i % 5 = 1 ∨ i % 5 = 2 ∨ i % 5 = 3 ∨ i % 5 = 4 := by omega
    have hs : (#[Value.int IntKind.i64 0, .int .i64 0, .int .i64 0, .int .i64 0, .int .i64 0] : Array Value).size = 5 := rfl
    rw [hs]
    rcases this with e | e | e | e | e <;> rw [e] <;> rfl
  · rw [List.getElem?_eq_none (by simp [madeCells]; omega), List.getElem?_eq_none (by rw [cellsV_length]; simp; omega)]
/-- The five cells of element k change. -/
theorem cellsV_put : ∀ (l : List Ev) (k : Nat) (e : Ev), k < l.length →
    (((((cellsV l).set (k * 5) (.int .i64 e.kd)).set (k * 5 + 1) (.int .i64 e.wk)).set (k * 5 + 2) (.int .i64 e.tk)).set (k * 5 + 3) (.int .i64 e.ot)).set (k * 5 + 4) (.int .i64 e.lv) = cellsV (l.set k e)
  | [], k, _, h => by simp at h
  | x :: r, 0, e, _ => rfl
  | x :: r, k + 1, e, h => by
    have := cellsV_put r k e (by simpa using h)
    have e1 : (k + 1) * 5 = k * 5 + 5 := by omega
    simp only [List.set_cons_succ, cellsV, ← this, e1]
theorem OwnE.put {w : World} {B g n c : Nat} {l : List Ev} (h : OwnE w B (.slice (some ⟨g, 0, none⟩) n c) l) (hn : l.length = n) {k : Nat} (hk : k < n) (e : Ev) :
    OwnE (((((w.setCell ⟨g, k * 5, none⟩ (.int .i64 e.kd)).setCell ⟨g, k * 5 + 1, none⟩ (.int .i64 e.wk)).setCell ⟨g, k * 5 + 2, none⟩ (.int .i64 e.tk)).setCell ⟨g, k * 5 + 3, none⟩ (.int .i64 e.ot)).setCell ⟨g, k * 5 + 4, none⟩ (.int .i64 e.lv)) B (.slice (some ⟨g, 0, none⟩) n c) (l.set k e) := by
  subst hn
  unfold OwnE at *
  have h1 := ((((World.ownsRow.stored h (k * 5) (.int .i64 e.kd)).1.stored (k * 5 + 1) (.int .i64 e.wk)).1.stored (k * 5 + 2) (.int .i64 e.tk)).1.stored (k * 5 + 3) (.int .i64 e.ot)).1.stored (k * 5 + 4) (.int .i64 e.lv) |>.1
  rw [cellsV_put l k e hk] at h1
  simpa using h1
theorem OwnY.same {w w' : World} {B : Nat} {v : Value} {l : List UInt8} (h : OwnY w B v l) (hk : ∀ k, v.ownBlock = some k → w'.heap[k]? = w.heap[k]?) : OwnY w' B v l := by
  refine ⟨h.1, ?_⟩
  rcases h.2 with h4 | ⟨g, cap, cur, rfl, h4, hg, rest⟩
  · exact .inl h4
  · exact .inr ⟨g, cap, cur, rfl, h4, (hk g rfl).trans hg, rest⟩
theorem OwnE.grown {w w' : World} {B : Nat} {v : Value} {l : List Ev} (h : OwnE w B v l) {r : Option Nat} (hg : w.grownBy w' r) (hr : ∀ k, v.ownBlock = some k → some k ≠ r) : OwnE w' B v l := by
  refine ⟨h.1, ?_⟩
  rcases h.2 with h4 | ⟨g, cap, cur, rfl, h4, hb, rest⟩
  · exact .inl h4
  · exact .inr ⟨g, cap, cur, rfl, h4, (hg.block g (Array.getElem?_eq_some_iff.1 hb).1 (hr g rfl)).trans hb, rest⟩
theorem park_at {n k : Nat} (hk : k < n) : (List.replicate k parkE ++ List.replicate (n - k) evNil)[k]? = some evNil := by
  rw [List.getElem?_append_right (by simp), List.length_replicate, Nat.sub_self, List.getElem?_replicate, if_pos (by omega)]
/-- The cells of an element of a row. -/
theorem OwnE.cells {w : World} {B g n c : Nat} {l : List Ev} (h : OwnE w B (.slice (some ⟨g, 0, none⟩) n c) l) (hn : l.length = n) {k : Nat} {e : Ev} (he : l[k]? = some e) (j : Nat) (hj : j < 5) : w.cell? ⟨g, k * 5 + j, none⟩ = (evV e)[j]? ∧ w.frozen? ⟨g, k * 5 + j, none⟩ = false := by
  subst hn
  have e1 := cellsV_at l k j e he hj
  have hlt : j < (evV e).size := hj
  refine ⟨?_, World.ownsRow.frozenAt h _⟩
  rw [Array.getElem?_eq_getElem hlt] at e1 ⊢
  have := World.ownsRow.cells h rfl _ _ e1
  have e2 : (⟨g, 0, none⟩ : Addr).add (k * 5 + j) = ⟨g, k * 5 + j, none⟩ := by
    unfold Addr.add
    split <;> simp_all
  rwa [e2] at this
theorem set_park {n k : Nat} (hk : k < n) : (List.replicate k parkE ++ List.replicate (n - k) evNil).set k parkE = List.replicate (k + 1) parkE ++ List.replicate (n - (k + 1)) evNil := by
  have e1 : n - k = (n - (k + 1)) + 1 := by omega
  rw [List.set_append_right _ _ (by simp), e1, List.replicate_succ]
  simp only [List.length_replicate, Nat.sub_self, List.set_cons_zero]
  rw [List.replicate_succ', List.append_assoc]
  simp
theorem OwnY.lower {w : World} {B C : Nat} {v : Value} {l : List UInt8} (h : OwnY w B v l) (hC : C ≤ B) : OwnY w C v l := by
  refine ⟨h.1, ?_⟩
  rcases h.2 with h4 | ⟨g, cap, cur, rfl, h4, rest⟩
  · exact .inl h4
  · exact .inr ⟨g, cap, cur, rfl, by omega, rest⟩
theorem OwnE.lower {w : World} {B C : Nat} {v : Value} {l : List Ev} (h : OwnE w B v l) (hC : C ≤ B) : OwnE w C v l := by
  refine ⟨h.1, ?_⟩
  rcases h.2 with h4 | ⟨g, cap, cur, rfl, h4, rest⟩
  · exact .inl h4
  · exact .inr ⟨g, cap, cur, rfl, by omega, rest⟩
/-- What the loop knows. -/
structure MaS (w : World) (n B g c : Nat) (v : Value) (k : Nat) (u : World) : Prop where
  ev : OwnE u w.heap.size (.slice (some ⟨g, 0, none⟩) n c) (List.replicate k parkE ++ List.replicate (n - k) evNil)
  tx : OwnY u B v (textB (List.replicate k parkE))
  bel : Below w.heap.size w u
  hg : g < B
  hB : w.heap.size ≤ B
  hu : B ≤ u.heap.size
def MaR (w : World) (n B g c : Nat) (v i : Value) (u : World) : Prop := ∃ k : Nat, k ≤ n ∧ i = .int .i64 (k : Int) ∧ MaS w n B g c v k u

set_option maxRecDepth 100000 in
set_option maxHeartbeats 8000000 in
theorem many_law (less : Int) (w : World) (hlib : Libs w.heap.size w) : Calls Tryd.prog 4 #[.int .i64 less] w (Gives (.bool true) w) := by
  have HLib := Lib.hid hlib
  clear hlib
  have hB := Lib.hid (below_one w (.cells #[.int .i64 less] 3))
  have hI := Lib.hid (show InInts (w.alloc (.cells #[.int .i64 less] 3)) (some ⟨w.heap.size, 0, none⟩) 1 [less] from ⟨rfl, by unfold maxLen; omega, fun i hi => by
    obtain rfl : i = 0 := by omega
    exact ⟨_, rfl, by simp, (Blk.made w 3 #[.int .i64 less]).at_ 0⟩⟩)
  have HNum := Lib.hid (show Calls Tryd.prog 8 #[.slice (some ⟨w.heap.size, 0, none⟩) 1 1, .int .i64 0, .int .i64 3] (w.alloc (.cells #[.int .i64 less] 3)) (NumR 3 (w.alloc (.cells #[.int .i64 less] 3))) from keepnum_any hI.out 1 0 (by omega) 3 (by omega) (by omega))
  obtain ⟨iE, hiE, hzE0, hzE1, hzE2⟩ := info_parts info_event
  obtain ⟨iY, hiY, hzY0, hzY1, hzY2⟩ := info_parts info_u8
  go_enter Tryd.func4, Tryd.ntmps4
  go_wp2_with fail
  (with_reducible refine (HNum.out).mono ?_)
  rintro en W1 ⟨y, hy, rfl, m, rfl⟩
  have hB1 := Lib.hid (hB.out.trans ((below_drewN (w.alloc (.cells #[.int .i64 less] 3)) m).mono hB.out.size))
  clear hB hI HNum
  generalize (w.alloc (.cells #[.int .i64 less] 3)).drewN m = W1 at *
  go_upto_region 2 with fail
  obtain ⟨n, hn⟩ : ∃ n : Nat, (65537 : Int) - (y : Int) = (n : Int) := ⟨65537 - y, by omega⟩
  rw [hn]
  have HN := Lib.hid (show n = 65535 ∨ n = 65536 ∨ n = 65537 by omega)
  have hn1 : n ≤ 70000 := by omega
  clear hn hy
  go_upto_region 3 with
    (at_make
     refine wpList_make_full W1 rfl _ _ 29 rfl W1.heap.size 23 iE _ 5 Tryd.underlying29 hiE hzE0 hzE1 .i64 .i64 n n n rfl rfl rfl rfl (by rw [hzE2]; omega) (by unfold maxLen; omega) (Nat.le_refl _) ?_
     intro W2 hrow hgr
     have HE := Lib.hid (show OwnE W2 W1.heap.size (.slice (some ⟨W1.heap.size, 0, none⟩) n n) (List.replicate n evNil) by
       have e1 : (Value.agg #[.int .i64 0, .int .i64 0, .int .i64 0, .int .i64 0, .int .i64 0]).cells = #[.int .i64 0, .int .i64 0, .int .i64 0, .int .i64 0, .int .i64 0] := rfl
       rw [e1, madeV n] at hrow
       unfold OwnE
       rw [List.length_replicate]
       exact hrow)
     have hB2 := Lib.hid (show Below w.heap.size w W2 from hB1.out.trans ⟨hgr.os, hgr.tape, hgr.output, hgr.size, fun k hk => hgr.block k (by have := hB1.out.size; omega) (by simp)⟩)
     have hg2 : W1.heap.size < W2.heap.size := by
       have := HE.out.lt W1.heap.size rfl
       exact this.2
     have hg3 : w.heap.size ≤ W1.heap.size := hB1.out.size
     clear hrow hgr hB1)
  generalize W1.heap.size = g at *
  go_wp2_with
    (at_make
     refine wpList_make_own W2 rfl _ _ 30 rfl W2.heap.size 5 iY _ 1 Tryd.underlying30 hiY hzY0 hzY1 .i64 .i64 (7 * (n : Int)) (7 * n) rfl rfl (by omega) (by rw [hzY2]; omega) (by unfold maxLen; omega) (Nat.le_refl _) ?_
     intro W3 hrow hgr
     have HY := Lib.hid (show OwnY W3 W2.heap.size (.slice (some ⟨W2.heap.size, 0, none⟩) 0 (7 * n)) [] from hrow)
     have HE3 := Lib.hid (HE.out.grown hgr (by simp))
     have hB3 := Lib.hid (show Below w.heap.size w W3 from hB2.out.trans ⟨hgr.os, hgr.tape, hgr.output, hgr.size, fun k hk => hgr.block k (by have := hB2.out.size; omega) (by simp)⟩)
     have hs3 : W2.heap.size ≤ W3.heap.size := hgr.size
     clear hrow hgr hB2 HE)
  have HM := Lib.hid (show MaS w n W2.heap.size g n (.slice (some ⟨W2.heap.size, 0, none⟩) 0 (7 * n)) 0 W3 from ⟨by simpa using (show OwnE W3 w.heap.size (.slice (some ⟨g, 0, none⟩) n n) (List.replicate n evNil) from OwnE.lower HE3.out hg3), HY.out, hB3.out, hg2, by omega, hs3⟩)
  clear HY HE3 hB3
  generalize W2.heap.size = B at *
  clear hs3
  go_loopw [5, 6] (fun v i u => MaR w n B g n v i u) (fun _ i _ => n - (intOf i).toNat)
  case atStart => exact ⟨0, by omega, rfl, HM.out⟩
  case round =>
    obtain ⟨k, hk, rfl, hst⟩ := hrel
    have HS := Lib.hid hst
    clear hst HM
    by_cases hlt : k < n
    · have hlen : (List.replicate k parkE ++ List.replicate (n - k) evNil).length = n := by simp; omega
      obtain ⟨c0, y0⟩ := HS.out.ev.cells hlen (park_at hlt) 0 (by omega)
      obtain ⟨c1, y1⟩ := HS.out.ev.cells hlen (park_at hlt) 1 (by omega)
      obtain ⟨c2, y2⟩ := HS.out.ev.cells hlen (park_at hlt) 2 (by omega)
      obtain ⟨c3, y3⟩ := HS.out.ev.cells hlen (park_at hlt) 3 (by omega)
      obtain ⟨c4, y4⟩ := HS.out.ev.cells hlen (park_at hlt) 4 (by omega)
      rw [Nat.add_zero] at c0 y0
      have HP := Lib.hid (HS.out.ev.put hlen hlt parkE)
      clear hlen
      go_upto_region 8 with fail
      have hfr : Fr [g] wr (((((wr.setCell ⟨g, k * 5, none⟩ (.int .i64 16)).setCell ⟨g, k * 5 + 1, none⟩ (.int .i64 0)).setCell ⟨g, k * 5 + 2, none⟩ (.int .i64 0)).setCell ⟨g, k * 5 + 3, none⟩ (.int .i64 0)).setCell ⟨g, k * 5 + 4, none⟩ (.int .i64 0)) :=
        (((((Fr.refl [g] wr).setCell (.inl (by simp)) _).setCell (.inl (by simp)) _).setCell (.inl (by simp)) _).setCell (.inl (by simp)) _).setCell (.inl (by simp)) _
      have HE4 := Lib.hid (show OwnE (((((wr.setCell ⟨g, k * 5, none⟩ (.int .i64 16)).setCell ⟨g, k * 5 + 1, none⟩ (.int .i64 0)).setCell ⟨g, k * 5 + 2, none⟩ (.int .i64 0)).setCell ⟨g, k * 5 + 3, none⟩ (.int .i64 0)).setCell ⟨g, k * 5 + 4, none⟩ (.int .i64 0)) w.heap.size (.slice (some ⟨g, 0, none⟩) n n) (List.replicate (k + 1) parkE ++ List.replicate (n - (k + 1)) evNil) by
        have := HP.out
        rw [set_park hlt] at this
        exact this)
      have HY4 := Lib.hid (HS.out.tx.same (fun q hq => hfr.block q (HS.out.tx.lt q hq).2 (by have := (HS.out.tx.lt q hq).1; have := HS.out.hg; simp; omega)))
      have HB4 := Lib.hid (HS.out.bel.trans (hfr.below (B := w.heap.size) HS.out.bel.size (fun q hq => by simp at hq; omega)))
      have hsz := hfr.size
      clear HP hfr c0 y0 c1 y1 c2 y2 c3 y3 c4 y4
      generalize (((((wr.setCell ⟨g, k * 5, none⟩ (.int .i64 16)).setCell ⟨g, k * 5 + 1, none⟩ (.int .i64 0)).setCell ⟨g, k * 5 + 2, none⟩ (.int .i64 0)).setCell ⟨g, k * 5 + 3, none⟩ (.int .i64 0)).setCell ⟨g, k * 5 + 4, none⟩ (.int .i64 0)) = W4 at *
      go_wp2_with
        (at_builtin
         refine wpList_appS (ns := [112, 97, 114, 107, 32, 48, 10]) rfl (.tmp 30) (.const (.string ⟨#[112, 97, 114, 107, 32, 48, 10]⟩)) rfl rfl HY4.out rfl (by rw [park_len]; simp; omega) (by have := HS.out.hu; omega) ?_
         intro v5 W5 hown hgr
         have HS5 := Lib.hid (show MaS w n B g n v5 (k + 1) W5 from ⟨HE4.out.grown hgr (fun q hq e => by
            simp only [Value.ownBlock, Option.some.injEq] at hq
            subst hq
            have := (HY4.out.lt _ e.symm).1
            have := HS.out.hg
            omega), by rw [park_text]; exact hown, HB4.out.trans (below_appY HB4.out.size (OwnY.lower HY4.out HS.out.hB) hgr), HS.out.hg, HS.out.hB, by have := HS.out.hu; have := hgr.size; omega⟩)
         clear hown hgr HY4 HE4 HB4 hsz)
      go_roundw
      case rel => exact ⟨k + 1, by omega, by go_num, HS5.out⟩
      case measure => simp [intOf]; omega
    · have h4 : k = n := by omega
      subst h4
      have HE := Lib.hid (show OwnE wr w.heap.size (.slice (some ⟨g, 0, none⟩) k k) (List.replicate k parkE) by have := HS.out.ev; simpa using this)
      have HY := Lib.hid HS.out.tx
      have HB := Lib.hid HS.out.bel
      have hBu := HS.out.hu
      have hBw := HS.out.hB
      clear HS
      have HI := Lib.hid (show InE wr (some ⟨g, 0, none⟩) (List.replicate k parkE) by
        obtain ⟨a, c, e, hi⟩ := HE.out.inE
        simp only [Value.slice.injEq] at e
        obtain ⟨rfl, _, _⟩ := e
        exact hi)
      have HF := Lib.hid (show Calls Tryd.prog 9 #[.slice (some ⟨g, 0, none⟩) k k] wr (Formatted (List.replicate k parkE) wr) by
        have := format_any HI.out k ((HLib.out.on HB.out).up HB.out.size)
        rw [List.length_replicate] at this
        exact this)
      have hFR := Lib.hid (show formatR (List.replicate k parkE) = if 65536 < k then ([], 2) else (textB (List.replicate k parkE), 0) by
        unfold formatR
        rw [List.length_replicate]
        by_cases h : 65536 < k
        · rw [if_pos h, if_pos h]
        · rw [if_neg h, if_neg h, if_pos (park_all k)])
      have hPR := Lib.hid (show parseR (textB (List.replicate k parkE)) = if k ≤ mxE then (List.replicate k parkE, 0, 0) else ([], (mxE : Int) + 1, 2) by
        rw [parseR_text (fun e he => by rw [List.eq_of_mem_replicate he]; exact park_reads) (by rw [park_len, mxS_eq]; omega), List.length_replicate])
      go_wp2_with fail
      (with_reducible refine (HF.out).mono ?_)
      rintro en W6 ⟨rfl, hb⟩
      have hB6 := Lib.hid (HB.out.trans (hb.mono HB.out.size))
      have hY6 := Lib.hid (HY.out.below hb)
      clear hb HF HI HE HB HY
      have hrun := hY6.out.str
      go_wp2_with fail
      (with_reducible refine (parse_any ((HLib.out.on hB6.out).up hB6.out.size) _).mono ?_)
      rintro en W7 ⟨v7, rfl, hv7, hb⟩
      have hB7 := Lib.hid (hB6.out.trans (hb.mono hB6.out.size))
      have hY7 := Lib.hid (hY6.out.below hb)
      have hV7 := Lib.hid hv7
      clear hb hB6 hY6 hrun hv7
      by_cases hbig : 65536 < k
      · have hd : decide ((65536 : Int) < (k : Int)) = true := decide_eq_true (by omega)
        have hF2 : formatR (List.replicate k parkE) = ([], 2) := by rw [hFR.out, if_pos hbig]
        have hP2 : parseR (textB (List.replicate k parkE)) = ([], 65537, 2) := by
          rw [hPR.out, if_neg (by rw [mxE_eq]; omega), mxE_eq]
          rfl
        rw [hF2, hP2]
        rw [hP2] at hV7
        obtain ⟨va, vc, rfl⟩ := hV7.out.form
        clear hF2 hP2 hbig hFR hPR
        go_wp2_with fail
        (with_reducible refine (awake_any ((HLib.out.on hB7.out).up hB7.out.size)).mono ?_)
        rintro en W8 ⟨rfl, hb⟩
        have hB8 := Lib.hid (hB7.out.trans (hb.mono hB7.out.size))
        clear hb hB7
        go_wp2
        go_ret
        exact ⟨rfl, hB8.out⟩
      · have hd : decide ((65536 : Int) < (k : Int)) = false := decide_eq_false (by omega)
        have hF2 : formatR (List.replicate k parkE) = (textB (List.replicate k parkE), 0) := by rw [hFR.out, if_neg hbig]
        have hP2 : parseR (textB (List.replicate k parkE)) = (List.replicate k parkE, 0, 0) := by
          rw [hPR.out, if_pos (by rw [mxE_eq]; omega)]
        rw [hF2, hP2]
        rw [hP2] at hV7
        obtain ⟨va, vc, hv⟩ := hV7.out.form
        rw [List.length_replicate] at hv
        subst hv
        clear hF2 hP2 hbig hFR hPR
        go_wp2_with fail
        (with_reducible refine (awake_any ((HLib.out.on hB7.out).up hB7.out.size)).mono ?_)
        rintro en W8 ⟨rfl, hb⟩
        have hB8 := Lib.hid (hB7.out.trans (hb.mono hB7.out.size))
        have hrun := (hY7.out.below hb).str
        clear hb hB7
        go_wp2
        go_ret
        exact ⟨rfl, hB8.out⟩
end Go.Proofs.YtcjiikaiobomeaaDoor
