/-
  Package event: kindOf, guess, read.
-/
import Derived.Test.YtcjiikaiobomeaaDoorEvC
import Derived.Test.YtcjiikaiobomeaaDoorEvE
import Derived.Test.YtcjiikaiobomeaaDoorEvF
namespace Go.Proofs.YtcjiikaiobomeaaDoor
open Go Go.RowKit
set_option linter.unusedSimpArgs false

def KoR (w : World) (word : List UInt8) (i : Value) (wr : World) : Prop :=
  ∃ k : Nat, k ≤ 20 ∧ i = .int .i64 (k : Int) ∧ (∀ j, j < k → (lineTab.getD j ([], 0)).1 ≠ word) ∧ Below w.heap.size w wr
theorem kindN_nat {k : Nat} (h : k < 20) : kindN (k : Int) = k := by
  unfold kindN
  rw [if_pos (by omega)]
  omega
set_option maxRecDepth 100000 in
set_option maxHeartbeats 4000000 in
theorem kindOf_any (word : List UInt8) (w : World) :
    Calls Tryd.prog 26 #[.string ⟨word.toArray⟩] w fun en w' => en = .returned (.int .i64 (kindB word : Int)) ∧ Below w.heap.size w w' := by
  go_enter Tryd.func26, Tryd.ntmps26
  go_wp2_with fail
  (with_reducible refine (lines_any _).mono ?_)
  rintro en W1 ⟨rfl, hb⟩
  have HB := Lib.hid hb
  clear hb
  have hidx := index_lines
  generalize linesV = LV at *
  have HX := Lib.hid hidx
  clear hidx
  go_wp2_with fail
  go_loopw [6] (fun i wr => KoR w word i wr) (fun i _ => 20 - (intOf i).toNat)
  case atStart => exact ⟨0, by omega, rfl, fun j hj => absurd hj (by omega), HB.out⟩
  case round =>
    obtain ⟨k, hk, rfl, hall, hbel⟩ := hrel
    have HA := Lib.hid hall
    have HBr := Lib.hid hbel
    clear hall hbel HB
    by_cases hlt : k < 20
    · have hi := fun (W : World) => HX.out (k : Int) (by omega) (by omega) W
      unfold lineV wordK at hi
      rw [kindN_nat hlt] at hi
      have hS := Lib.hid (fun (h : (lineTab.getD k ([], 0)).1 ≠ word) => (fun (j : Nat) (hj : j < k + 1) => (by
        by_cases hjk : j = k
        · subst hjk
          exact h
        · exact HA.out j (by omega) : (lineTab.getD j ([], 0)).1 ≠ word)))
      have hH := Lib.hid (fun (h : (lineTab.getD k ([], 0)).1 = word) => kindB_hit hlt HA.out h)
      generalize (lineTab.getD k ([], 0)).1 = wd at *
      generalize (maskK (k : Int) : Int) = mk at *
      have hR := Lib.hid (Blk.made wr 38 #[.string ⟨wd.toArray⟩, .int .i64 mk])
      have hB1 := Lib.hid (HBr.out.trans ((below_one wr (.cells #[.string ⟨wd.toArray⟩, .int .i64 mk] 38)).mono HBr.out.size))
      go_upto_region 4 with fail
      have r0 := hR.out.at_ 0
      generalize (wr.alloc (.cells #[.string ⟨wd.toArray⟩, .int .i64 mk] 38)) = W2 at *
      clear hi
      go_wp2_with fail
      · have hq : (wd == word) = true := by assumption
        go_ret
        exact ⟨by rw [hH.out (by simpa using hq)]; rfl, hB1.out⟩
      · have hq : (wd == word) = false := by assumption
        have hS' := hS.out (by simpa using hq)
        go_roundw
        case rel => exact ⟨k + 1, by omega, by go_num, hS', hB1.out⟩
        case measure => simp [intOf]; omega
    · have h4 : k = 20 := by omega
      subst h4
      have hM := Lib.hid (kindB_miss HA.out)
      go_wp2_with fail
      go_ret
      exact ⟨by rw [hM.out]; rfl, HBr.out⟩
abbrev fourV (l : List Int) : Array Value := #[.int .i64 (l.getD 0 0), .int .i64 (l.getD 1 0), .int .i64 (l.getD 2 0), .int .i64 (l.getD 3 0)]
theorem four_set {l : List Int} {k : Nat} (hl : l.length = k) (hk : k < 4) (v : Int) : (fourV l).setIfInBounds k (.int .i64 v) = fourV (l ++ [v]) := by
  match k, l, hl, hk with
  | 0, [], _, _ => rfl
  | 1, [a], _, _ => rfl
  | 2, [a, b], _, _ => rfl
  | 3, [a, b, c], _, _ => rfl
  | k + 4, _, _, h => omega
theorem four_zero {l : List Int} {k : Nat} (hl : l.length = k) (hk : k < 4) : fourV (l ++ [0]) = fourV l := by
  match k, l, hl, hk with
  | 0, [], _, _ => rfl
  | 1, [a], _, _ => rfl
  | 2, [a, b], _, _ => rfl
  | 3, [a, b, c], _, _ => rfl
  | k + 4, _, _, h => omega
theorem four_at (l : List Int) {k : Nat} (hk : k < 4) : (fourV l)[k]? = some (.int .i64 (l.getD k 0)) := by
  match k, hk with
  | 0, _ => rfl
  | 1, _ => rfl
  | 2, _ => rfl
  | 3, _ => rfl
  | k + 4, h => omega
abbrev kOf (t : List UInt8) : Int := (kindB (cutB 32 t).1 : Int)
/-- What the loop of guess knows. -/
structure GuS (w : World) (t : List UInt8) (g7 g8 : Nat) (l : List Int) (u : World) : Prop where
  rs : Blk u w.heap.size 23 (evV evNil)
  ln : Blk u g7 38 #[.string ⟨(wordK (kOf t)).toArray⟩, .int .i64 (maskK (kOf t) : Int)]
  ns : Blk u g8 40 (fourV l)
  bel : Below w.heap.size w u
  h8 : w.heap.size ≤ g8
theorem GuS.below {w u u' : World} {t : List UInt8} {g7 g8 : Nat} {l : List Int} (h : GuS w t g7 g8 l u) (hb : Below u.heap.size u u') : GuS w t g7 g8 l u' :=
  ⟨h.rs.below hb, h.ln.below hb, h.ns.below hb, h.bel.trans (hb.mono h.bel.size), h.h8⟩
theorem GuS.put {w u : World} {t : List UInt8} {g7 g8 : Nat} {l : List Int} (h : GuS w t g7 g8 l u) {k : Nat} (hl : l.length = k) (hk : k < 4) (v : Int) : GuS w t g7 g8 (l ++ [v]) (u.setCell ⟨g8, k, none⟩ (.int .i64 v)) := by
  have n1 : w.heap.size ≠ g8 := h.rs.apart h.ns (by decide)
  have n2 : g7 ≠ g8 := h.ln.apart h.ns (by decide)
  refine ⟨h.rs.of_same (Below.heap_setCell u _ _ _ n1), h.ln.of_same (Below.heap_setCell u _ _ _ n2), ?_, h.bel.setCell h.h8 _, h.h8⟩
  have := h.ns.put k (.int .i64 v)
  rw [four_set hl hk] at this
  exact this
def GuR (w : World) (t : List UInt8) (g7 g8 : Nat) (rest i : Value) (u : World) : Prop :=
  ∃ (k : Nat) (l : List Int) (r : List UInt8), k ≤ 4 ∧ i = .int .i64 (k : Int) ∧ rest = .string ⟨r.toArray⟩ ∧ gUp (maskK (kOf t)) (cutB 32 t).2.1 k = some (l, r) ∧ GuS w t g7 g8 l u
theorem guessB_some {t : List UInt8} {l : List Int} {r : List UInt8} (h : gUp (maskK (kOf t)) (cutB 32 t).2.1 4 = some (l, r)) : guessB t = evOf (kOf t) l := by
  unfold guessB
  rw [h]
theorem guessB_none {t : List UInt8} {k : Nat} (hk : k ≤ 4) (h : gUp (maskK (kOf t)) (cutB 32 t).2.1 k = none) : guessB t = evNil := by
  have := gUp_none h (4 - k)
  rw [show k + (4 - k) = 4 by omega] at this
  unfold guessB
  rw [this]
theorem gUp_no {m k : Nat} {rest r : List UInt8} {l : List Int} (h : gUp m rest k = some (l, r)) (hf : hasF m k = false) : gUp m rest (k + 1) = some (l ++ [0], r) := by simp [gUp, h, hf]
theorem gUp_ok {m k : Nat} {rest r : List UInt8} {l : List Int} {v : Int} (h : gUp m rest k = some (l, r)) (hf : hasF m k = true) (hv : Lib.atoiAll (cutB 32 r).1 = .ok v) : gUp m rest (k + 1) = some (l ++ [v], (cutB 32 r).2.1) := by simp [gUp, h, hf, hv]
theorem gUp_bad {m k : Nat} {rest r : List UInt8} {l : List Int} (h : gUp m rest k = some (l, r)) (hf : hasF m k = true) (hv : ∀ v, Lib.atoiAll (cutB 32 r).1 ≠ .ok v) : gUp m rest (k + 1) = none := by
  rcases hq : Lib.atoiAll (cutB 32 r).1 with v | _ | _
  · exact absurd hq (hv v)
  · simp [gUp, h, hf, hq]
  · simp [gUp, h, hf, hq]
set_option maxRecDepth 100000 in
set_option maxHeartbeats 8000000 in
theorem guess_any {w : World} (hlib : Libs w.heap.size w) (t : List UInt8) (ht : t.length < 4294967281) :
    Calls Tryd.prog 23 #[.string ⟨t.toArray⟩] w fun en w' => en = .returned (.agg (evV (guessB t))) ∧ Below w.heap.size w w' := by
  have HLib := Lib.hid hlib
  have hB := Lib.hid (below_one w (.cells (evV evNil) 23))
  have hE := Lib.hid (Blk.made w 23 (evV evNil))
  have HT := Lib.hid ht
  have hlen := cutB_len 32 t
  have HC := Lib.hid hlen
  have hml := maskK_lt (kOf t)
  clear hlib ht hlen
  go_enter Tryd.func23, Tryd.ntmps23
  go_upto_region 1 with fail
  change Code.wp _ _ _ _ (w.alloc (.cells (evV evNil) 23))
  generalize (w.alloc (.cells (evV evNil) 23)) = W at *
  go_wp2_with fail
  (with_reducible refine (cut_any (HLib.out.on hB.out) t [32] HT.out).mono ?_)
  rintro en W1 ⟨rfl, n1, rfl⟩
  rw [cut_one]
  have hB1 := Lib.hid (hB.out.trans ((below_drewN W n1).mono hB.out.size))
  have hE1 := Lib.hid (hE.out.below (below_drewN W n1))
  clear hB hE
  generalize W.drewN n1 = W1 at *
  go_wp2_with fail
  (with_reducible refine (kindOf_any _ _).mono ?_)
  rintro en W2 ⟨rfl, hb⟩
  have hB2 := Lib.hid (hB1.out.trans (hb.mono hB1.out.size))
  have hE2 := Lib.hid (hE1.out.below hb)
  clear hB1 hE1 hb
  go_wp2_with fail
  (with_reducible refine (lineOf_any _ _).mono ?_)
  rintro en W3 ⟨rfl, hb⟩
  have hB3 := Lib.hid (hB2.out.trans (hb.mono hB2.out.size))
  have hE3 := Lib.hid (hE2.out.below hb)
  clear hB2 hE2 hb
  unfold lineV
  have hL := Lib.hid (Blk.made W3 38 #[.string ⟨(wordK (kOf t)).toArray⟩, .int .i64 (maskK (kOf t) : Int)])
  have hb := below_one W3 (.cells #[.string ⟨(wordK (kOf t)).toArray⟩, .int .i64 (maskK (kOf t) : Int)] 38)
  have hB4 := Lib.hid (hB3.out.trans (hb.mono hB3.out.size))
  have hE4 := Lib.hid (hE3.out.below hb)
  clear hB3 hE3 hb
  go_upto_region 4 with fail
  generalize W3.alloc (.cells #[.string ⟨(wordK (kOf t)).toArray⟩, .int .i64 (maskK (kOf t) : Int)] 38) = W4 at *
  generalize W3.heap.size = g7 at *
  go_wp2_with fail
  (with_reducible refine (numbers_any ⟨0, 0, 0, 0, 0⟩ _).mono ?_)
  rintro en W5 ⟨rfl, hb⟩
  have hB5 := Lib.hid (hB4.out.trans (hb.mono hB4.out.size))
  have hE5 := Lib.hid (hE4.out.below hb)
  have hL5 := Lib.hid (hL.out.below hb)
  clear hB4 hE4 hL hb
  have hb := below_one W5 (.cells (fourV []) 40)
  have hS := Lib.hid (show GuS w t g7 W5.heap.size [] (W5.alloc (.cells (fourV []) 40)) from ⟨hE5.out.below hb, hL5.out.below hb, Blk.made W5 40 (fourV []), hB5.out.trans (hb.mono hB5.out.size), hB5.out.size⟩)
  clear hb hB5 hE5 hL5
  go_upto_region 5 with fail
  change Code.wp _ _ _ _ (W5.alloc (.cells (fourV []) 40))
  generalize (W5.alloc (.cells (fourV []) 40)) = W6 at *
  generalize W5.heap.size = g8 at *
  go_wp2_with fail
  go_loopw [4, 27] (fun r i u => GuR w t g7 g8 r i u) (fun _ i _ => 4 - (intOf i).toNat)
  case atStart => exact ⟨0, [], (cutB 32 t).2.1, by omega, rfl, rfl, rfl, hS.out⟩
  case round =>
    obtain ⟨k, l, r, hk, rfl, rfl, hg, hst⟩ := hrel
    have HS := Lib.hid hst
    have HG := Lib.hid hg
    have HN := Lib.hid (gUp_len hg)
    clear hst hg hS
    by_cases hlt : k < 4
    · have l0 := HS.out.ln.at_ 0
      have l1 := HS.out.ln.at_ 1
      go_upto_region 8 with fail
      go_wp2_with fail
      (with_reducible refine (contains_any _ _ k hml hlt _).mono ?_)
      rintro en W7 ⟨rfl, hb⟩
      have HS7 := Lib.hid (HS.out.below hb)
      clear hb l0 l1 HS
      cases hh : hasF (maskK (kOf t)) k with
      | true =>
        have HF := Lib.hid hh
        clear hh
        go_upto_region 9 with fail
        go_wp2_with fail
        (with_reducible refine (cut_any (HLib.out.on HS7.out.bel) r [32] (by have := HN.out.2; have := HC.out.2.1; have := HT.out; omega)).mono ?_)
        rintro en W8 ⟨rfl, n8, rfl⟩
        rw [cut_one]
        have HS8 := Lib.hid (HS7.out.below (below_drewN W7 n8))
        clear HS7
        generalize W7.drewN n8 = W8 at *
        have hr1 := Lib.hid (show (cutB 32 r).1.length < 4294967281 by have := (cutB_len 32 r).1; have := HN.out.2; have := HC.out.2.1; have := HT.out; omega)
        by_cases hat : ∃ v, Lib.atoiAll (cutB 32 r).1 = .ok v
        · obtain ⟨v, hv⟩ := hat
          have HV := Lib.hid hv
          clear hv
          go_wp2_with fail
          (with_reducible refine (atoi_ok (cutB 32 r).1 hr1.out HV.out).mono ?_)
          rintro en W9 ⟨rfl, hb⟩
          have HS9 := Lib.hid (HS8.out.below hb)
          clear hb HS8
          go_upto_region 13 with fail
          have q0 := HS9.out.ns.at_ k
          rw [four_at l hlt] at q0
          have q1 := HS9.out.ns.free k
          go_wp2_with fail
          go_roundw
          case rel => exact ⟨k + 1, l ++ [v], (cutB 32 r).2.1, by omega, by go_num, rfl, gUp_ok HG.out HF.out HV.out, HS9.out.put HN.out.1 hlt v⟩
          case measure => simp [intOf]; omega
        · have HBad := Lib.hid (guessB_none (by omega) (gUp_bad HG.out HF.out (fun v e => hat ⟨v, e⟩)))
          have HNo := Lib.hid (fun v (e : Lib.atoiAll (cutB 32 r).1 = .ok v) => hat ⟨v, e⟩)
          clear hat
          go_wp2_with fail
          (with_reducible refine (atoi_bad (HLib.out.on HS8.out.bel) (cutB 32 r).1 hr1.out HNo.out).mono ?_)
          rintro en W9 ⟨x9, t9, N9, rfl, hb⟩
          have HS9 := Lib.hid (HS8.out.below hb)
          clear hb HS8
          have z0 := HS9.out.rs.at_ 0
          have z1 := HS9.out.rs.at_ 1
          have z2 := HS9.out.rs.at_ 2
          have z3 := HS9.out.rs.at_ 3
          have z4 := HS9.out.rs.at_ 4
          have y0 := HS9.out.rs.free 0
          have y1 := HS9.out.rs.free 1
          have y2 := HS9.out.rs.free 2
          have y3 := HS9.out.rs.free 3
          have y4 := HS9.out.rs.free 4
          go_wp2_with fail
          have hP := (((((HS9.out.rs.put 0 (.int .i64 0)).put 1 (.int .i64 0)).put 2 (.int .i64 0)).put 3 (.int .i64 0)).put 4 (.int .i64 0))
          simp only [List.setIfInBounds_toArray, List.set_cons_zero, List.set_cons_succ] at hP
          refine bodyPost_ret (results_cell_row (P := Tryd.prog) Tryd.results23 _ _ w.heap.size 23 _ (0, 0) _ rfl hP Tryd.underlying23 rfl (by kernel_rfl)) rfl ?_
          exact ⟨by rw [HBad.out]; rfl, ((((HS9.out.bel.setCell (by simp) _).setCell (by simp) _).setCell (by simp) _).setCell (by simp) _).setCell (by simp) _⟩
      | false =>
        have HF := Lib.hid (gUp_no HG.out hh)
        have HZ := Lib.hid (four_zero HN.out.1 hlt)
        clear hh
        go_wp2_with fail
        go_roundw
        case rel => exact ⟨k + 1, l ++ [0], r, by omega, by go_num, rfl, HF.out, by have := HS7.out; exact ⟨this.rs, this.ln, by rw [HZ.out]; exact this.ns, this.bel, this.h8⟩⟩
        case measure => simp [intOf]; omega
    · have h4 : k = 4 := by omega
      subst h4
      have HGs := Lib.hid (guessB_some HG.out)
      have q0 := HS.out.ns.at_ 0
      have q1 := HS.out.ns.at_ 1
      have q2 := HS.out.ns.at_ 2
      have q3 := HS.out.ns.at_ 3
      have z0 := HS.out.rs.at_ 0
      have z1 := HS.out.rs.at_ 1
      have z2 := HS.out.rs.at_ 2
      have z3 := HS.out.rs.at_ 3
      have z4 := HS.out.rs.at_ 4
      have y0 := HS.out.rs.free 0
      have y1 := HS.out.rs.free 1
      have y2 := HS.out.rs.free 2
      have y3 := HS.out.rs.free 3
      have y4 := HS.out.rs.free 4
      go_wp2_with fail
      have hP := (((((HS.out.rs.put 0 (.int .i64 (kOf t))).put 1 (.int .i64 (l.getD 0 0))).put 2 (.int .i64 (l.getD 1 0))).put 3 (.int .i64 (l.getD 2 0))).put 4 (.int .i64 (l.getD 3 0)))
      simp only [List.setIfInBounds_toArray, List.set_cons_zero, List.set_cons_succ] at hP
      refine bodyPost_ret (results_cell_row (P := Tryd.prog) Tryd.results23 _ _ w.heap.size 23 _ (0, 0) _ rfl hP Tryd.underlying23 rfl (by kernel_rfl)) rfl ?_
      exact ⟨by rw [HGs.out]; rfl, ((((HS.out.bel.setCell (by simp) _).setCell (by simp) _).setCell (by simp) _).setCell (by simp) _).setCell (by simp) _⟩
/-- What read answers. -/
def readV (t : List UInt8) : Ev × Bool :=
  match readB t with
  | some e => (e, true)
  | none => (evNil, false)
def ReadP (t : List UInt8) (w : World) (e : Ending) (w' : World) : Prop := e = .returned (.tuple #[.agg (evV (readV t).1), .bool (readV t).2]) ∧ Below w.heap.size w w'
theorem readV_no {t : List UInt8} (h : ¬ (validB (guessB t) = true ∧ lineB (guessB t) = t)) : readV t = (evNil, false) := by
  unfold readV readB
  rw [if_neg h]
theorem readV_yes {t : List UInt8} (h : validB (guessB t) = true) (h2 : lineB (guessB t) = t) : readV t = (guessB t, true) := by
  unfold readV readB
  rw [if_pos ⟨h, h2⟩]
set_option maxRecDepth 100000 in
set_option maxHeartbeats 8000000 in
theorem read_any {w : World} (hlib : Libs w.heap.size w) (t : List UInt8) (ht : t.length < 4294967281) :
    Calls Tryd.prog 19 #[.string ⟨t.toArray⟩] w (ReadP t w) := by
  have HLib := Lib.hid hlib
  have hB := Lib.hid (below_one w (.cells (evV evNil) 23))
  have hE := Lib.hid (Blk.made w 23 (evV evNil))
  have HT := Lib.hid ht
  clear hlib ht
  go_enter Tryd.func19, Tryd.ntmps19
  go_upto_region 1 with fail
  change Code.wp _ _ _ _ (w.alloc (.cells (evV evNil) 23))
  generalize (w.alloc (.cells (evV evNil) 23)) = W at *
  go_wp2_with fail
  (with_reducible refine (guess_any ((HLib.out.on hB.out).up hB.out.size) t HT.out).mono ?_)
  rintro en W1 ⟨rfl, hb⟩
  have hB1 := Lib.hid (hB.out.trans (hb.mono hB.out.size))
  have hE1 := Lib.hid (hE.out.below hb)
  clear hB hE hb
  have hb := below_one W1 (.cells (evV (guessB t)) 23)
  have hG := Lib.hid (Blk.made W1 23 (evV (guessB t)))
  have hB2 := Lib.hid (hB1.out.trans (hb.mono hB1.out.size))
  have hE2 := Lib.hid (hE1.out.below hb)
  clear hB1 hE1 hb
  have HN := Lib.hid (readV_no (t := t))
  have HY := Lib.hid (readV_yes (t := t))
  generalize guessB t = g at *
  go_upto_region 2 with fail
  have e0 := hG.out.at_ 0
  have e1 := hG.out.at_ 1
  have e2 := hG.out.at_ 2
  have e3 := hG.out.at_ 3
  have e4 := hG.out.at_ 4
  generalize W1.alloc (.cells (evV g) 23) = W2 at *
  generalize W1.heap.size = q at *
  cases hv : validB g with
  | false =>
    have HV := Lib.hid (HN.out (fun h => by rw [hv] at h; exact absurd h.1 (by simp)))
    have HF := Lib.hid hv
    clear hv
    go_wp2_with fail
    (with_reducible refine (valid_any _ _).mono ?_)
    rintro en W3 ⟨rfl, hb⟩
    rw [HF.out]
    have hB3 := Lib.hid (hB2.out.trans (hb.mono hB2.out.size))
    have hE3 := Lib.hid (hE2.out.below hb)
    clear hB2 hE2 hb e0 e1 e2 e3 e4 hG
    have z0 := hE3.out.at_ 0
    have z1 := hE3.out.at_ 1
    have z2 := hE3.out.at_ 2
    have z3 := hE3.out.at_ 3
    have z4 := hE3.out.at_ 4
    have y0 := hE3.out.free 0
    have y1 := hE3.out.free 1
    have y2 := hE3.out.free 2
    have y3 := hE3.out.free 3
    have y4 := hE3.out.free 4
    go_wp2_with fail
    have hP := (((((hE3.out.put 0 (.int .i64 0)).put 1 (.int .i64 0)).put 2 (.int .i64 0)).put 3 (.int .i64 0)).put 4 (.int .i64 0))
    simp only [List.setIfInBounds_toArray, List.set_cons_zero, List.set_cons_succ] at hP
    refine bodyPost_ret (results_cell_tmp (P := Tryd.prog) Tryd.results19 _ _ w.heap.size 23 _ (0, 0) _ _ rfl rfl hP Tryd.underlying23 rfl (by kernel_rfl)) rfl ?_
    exact ⟨by rw [HV.out]; rfl, ((((hB3.out.setCell (by simp) _).setCell (by simp) _).setCell (by simp) _).setCell (by simp) _).setCell (by simp) _⟩
  | true =>
    have HF := Lib.hid hv
    clear hv
    go_wp2_with fail
    (with_reducible refine (valid_any _ _).mono ?_)
    rintro en W3 ⟨rfl, hb⟩
    rw [HF.out]
    have hB3 := Lib.hid (hB2.out.trans (hb.mono hB2.out.size))
    have hE3 := Lib.hid (hE2.out.below hb)
    have hG3 := Lib.hid (hG.out.below hb)
    clear hB2 hE2 hb e0 e1 e2 e3 e4 hG
    have e0 := hG3.out.at_ 0
    have e1 := hG3.out.at_ 1
    have e2 := hG3.out.at_ 2
    have e3 := hG3.out.at_ 3
    have e4 := hG3.out.at_ 4
    go_wp2_with fail
    (with_reducible refine (write_any ((HLib.out.on hB3.out).up hB3.out.size) (OwnY.nil _ _) (Nat.le_refl _) (by simp) HF.out).mono ?_)
    rintro en W4 ⟨v4, rfl, hown, hb, _⟩
    have hrun := hown.str
    rw [List.nil_append] at hrun
    have hB4 := Lib.hid (hB3.out.trans (hb.mono hB3.out.size))
    have hE4 := Lib.hid (hE3.out.below hb)
    have hG4 := Lib.hid (hG3.out.below hb)
    clear hB3 hE3 hb e0 e1 e2 e3 e4 hG3 hown
    have z0 := hE4.out.at_ 0
    have z1 := hE4.out.at_ 1
    have z2 := hE4.out.at_ 2
    have z3 := hE4.out.at_ 3
    have z4 := hE4.out.at_ 4
    have y0 := hE4.out.free 0
    have y1 := hE4.out.free 1
    have y2 := hE4.out.free 2
    have y3 := hE4.out.free 3
    have y4 := hE4.out.free 4
    have e0 := hG4.out.at_ 0
    have e1 := hG4.out.at_ 1
    have e2 := hG4.out.at_ 2
    have e3 := hG4.out.at_ 3
    have e4 := hG4.out.at_ 4
    go_wp2_with fail
    · have hq : (!lineB g == t) = true := by assumption
      have HV := Lib.hid (HN.out (fun h => by rw [h.2] at hq; simp at hq))
      have hP := (((((hE4.out.put 0 (.int .i64 0)).put 1 (.int .i64 0)).put 2 (.int .i64 0)).put 3 (.int .i64 0)).put 4 (.int .i64 0))
      simp only [List.setIfInBounds_toArray, List.set_cons_zero, List.set_cons_succ] at hP
      refine bodyPost_ret (results_cell_tmp (P := Tryd.prog) Tryd.results19 _ _ w.heap.size 23 _ (0, 0) _ _ rfl rfl hP Tryd.underlying23 rfl (by kernel_rfl)) rfl ?_
      exact ⟨by rw [HV.out]; rfl, ((((hB4.out.setCell (by simp) _).setCell (by simp) _).setCell (by simp) _).setCell (by simp) _).setCell (by simp) _⟩
    · have hq : (!lineB g == t) = false := by assumption
      have HV := Lib.hid (HY.out HF.out (by simpa using hq))
      have hP := (((((hE4.out.put 0 (.int .i64 g.kd)).put 1 (.int .i64 g.wk)).put 2 (.int .i64 g.tk)).put 3 (.int .i64 g.ot)).put 4 (.int .i64 g.lv))
      simp only [List.setIfInBounds_toArray, List.set_cons_zero, List.set_cons_succ] at hP
      refine bodyPost_ret (results_cell_tmp (P := Tryd.prog) Tryd.results19 _ _ w.heap.size 23 _ (0, 0) _ _ rfl rfl hP Tryd.underlying23 rfl (by kernel_rfl)) rfl ?_
      exact ⟨by rw [HV.out]; rfl, ((((hB4.out.setCell (by simp) _).setCell (by simp) _).setCell (by simp) _).setCell (by simp) _).setCell (by simp) _⟩
end Go.Proofs.YtcjiikaiobomeaaDoor
