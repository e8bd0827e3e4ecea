/-
  Package event: write.
-/
import Derived.Test.YtcjiikaiobomeaaDoorEvB
import Derived.Test.YtcjiikaiobomeaaDoorEvLib
namespace Go.Proofs.YtcjiikaiobomeaaDoor
open Go Go.RowKit
set_option linter.unusedSimpArgs false

/-- What the loop of write knows. -/
structure WrSt (B : Nat) (w : World) (e : Ev) (pe pl : Nat) (v : Value) (m : List UInt8) (wr : World) : Prop where
  own : OwnY wr B v m
  ev : Blk wr pe 23 (evV e)
  ln : Blk wr pl 38 #[.string ⟨(wordK e.kd).toArray⟩, .int .i64 (maskK e.kd : Int)]
  bel : Below B w wr
  kept : Lib.OthersKept 5 none w wr
  hpe : B ≤ pe
  hpl : B ≤ pl
  hB : B ≤ w.heap.size
theorem OthersKept.blk {w w' : World} {g : Nat} {t : TypeId} {cs : Array Value} (hk : Lib.OthersKept 5 none w w') (h : Blk w g t cs) (ht : t ≠ 5) : Blk w' g t cs :=
  hk g _ h (by simp) (fun c fz e => by simp only [Obj.cells.injEq] at e; exact ht e.2.1)
theorem OthersKept.below {w w' : World} (hb : Below w.heap.size w w') : Lib.OthersKept 5 none w w' := fun k _ hk _ _ => (hb.block k (Array.getElem?_eq_some_iff.1 hk).1).trans hk
theorem OwnY.apart {w : World} {B : Nat} {v : Value} {l : List UInt8} (h : OwnY w B v l) {g : Nat} {t : TypeId} {cs : Array Value} (hb : Blk w g t cs) (ht : t ≠ 5) : v.ownBlock ≠ some g := fun e => by
  obtain ⟨c, fz, hc⟩ := h.kind _ e
  unfold Blk at hb
  rw [hb] at hc
  simp only [Option.some.injEq, Obj.cells.injEq] at hc
  exact ht hc.2.1
section
variable {B : Nat} {w wr w' : World} {e : Ev} {pe pl : Nat} {v v' : Value} {m m' : List UInt8}
theorem WrSt.step (h : WrSt B w e pe pl v m wr) (hb : Below B wr w') (hk : Lib.OthersKept 5 none wr w') (hown : OwnY w' B v' m') : WrSt B w e pe pl v' m' w' :=
  ⟨hown, OthersKept.blk hk h.ev (by decide), OthersKept.blk hk h.ln (by decide), h.bel.trans hb, h.kept.trans hk, h.hpe, h.hpl, h.hB⟩
theorem WrSt.le (h : WrSt B w e pe pl v m wr) : B ≤ wr.heap.size := Nat.le_trans h.hB h.bel.size
theorem WrSt.below (h : WrSt B w e pe pl v m wr) (hb : Below wr.heap.size wr w') : WrSt B w e pe pl v m w' := h.step (hb.mono h.le) (OthersKept.below hb) (h.own.below hb)
theorem WrSt.alloc (h : WrSt B w e pe pl v m wr) (o : Obj) : WrSt B w e pe pl v m (wr.alloc o) := h.below (below_one wr o)
theorem WrSt.grow (h : WrSt B w e pe pl v m wr) (hown : OwnY w' B v' m') (hg : wr.grownBy w' v.ownBlock) : WrSt B w e pe pl v' m' w' :=
  h.step (below_appY h.le h.own hg) ((Lib.OthersKept.refl _ _ wr).grown hg h.own.kind) hown
end
def WrR (B : Nat) (w : World) (e : Ev) (l : List UInt8) (pe pl : Nat) (v i : Value) (wr : World) : Prop := ∃ k : Nat, k ≤ 4 ∧ i = .int .i64 (k : Int) ∧ WrSt B w e pe pl v (l ++ (wordK e.kd ++ fieldsUp e k)) wr
theorem fieldsUp_yes {e : Ev} {k : Nat} (h : hasF (maskK e.kd) k = true) : fieldsUp e (k + 1) = fieldsUp e k ++ [32] ++ Lib.itoa ((numsE e).getD k 0) := by simp [fieldsUp, h]
theorem fieldsUp_no {e : Ev} {k : Nat} (h : hasF (maskK e.kd) k = false) : fieldsUp e (k + 1) = fieldsUp e k := by simp [fieldsUp, h]

set_option maxRecDepth 100000 in
set_option maxHeartbeats 4000000 in
theorem write_any {B : Nat} {w : World} {v : Value} {l : List UInt8} {e : Ev} (hlib : Libs B w) (hown : OwnY w B v l) (hB : B ≤ w.heap.size) (hn : l.length ≤ 50000000) (hv : validB e = true) :
    Calls Tryd.prog 17 #[v, .agg (evV e)] w (Appended B (l ++ lineB e) w) := by
  have hE := Lib.hid (Blk.made w 23 (evV e))
  have HO := Lib.hid (hown.alloc (.cells (evV e) 23))
  have HB := Lib.hid ((below_one w (.cells (evV e) 23)).mono hB)
  have HK := Lib.hid (OthersKept.below (below_one w (.cells (evV e) 23)))
  have HLib := Lib.hid hlib
  have HV := Lib.hid hv
  have e0 := hE.out.at_ 0
  have hml := maskK_lt e.kd
  have hwl := wordK_len e.kd
  have hfl := Lib.hid (fun k => fieldsUp_len hv k)
  have hnb := Lib.hid (fun k => numsE_bd hv k)
  have hs1 : w.heap.size < (w.alloc (.cells (evV e) 23)).heap.size := by simp
  clear hown hlib hv
  go_enter Tryd.func17, Tryd.ntmps17
  go_upto_region 1 with fail
  generalize w.alloc (.cells (evV e) 23) = W at *
  go_wp2_with fail
  (with_reducible refine (lineOf_any _ _).mono ?_)
  rintro en W1 ⟨rfl, hb⟩
  have HB1 := Lib.hid (HB.out.trans (hb.mono (by omega)))
  have HK1 := Lib.hid (HK.out.trans (OthersKept.below hb))
  have hE1 := Lib.hid (hE.out.of_same (hb.block _ hE.out.lt))
  have HO1 := Lib.hid (HO.out.below hb)
  have hs2 : W.heap.size ≤ W1.heap.size := hb.size
  clear hb hE HB HK HO e0
  unfold lineV
  have hL := Lib.hid (Blk.made W1 38 #[.string ⟨(wordK e.kd).toArray⟩, .int .i64 (maskK e.kd : Int)])
  have hB2 := Lib.hid (HB1.out.trans ((below_one W1 (.cells #[.string ⟨(wordK e.kd).toArray⟩, .int .i64 (maskK e.kd : Int)] 38)).mono (by omega)))
  have hK2 := Lib.hid (HK1.out.trans (OthersKept.below (below_one W1 (.cells #[.string ⟨(wordK e.kd).toArray⟩, .int .i64 (maskK e.kd : Int)] 38))))
  have hE2 := Lib.hid (hE1.out.alloc (.cells #[.string ⟨(wordK e.kd).toArray⟩, .int .i64 (maskK e.kd : Int)] 38))
  have HO2 := Lib.hid (HO1.out.alloc (.cells #[.string ⟨(wordK e.kd).toArray⟩, .int .i64 (maskK e.kd : Int)] 38))
  have hs3 : W1.heap.size < (W1.alloc (.cells #[.string ⟨(wordK e.kd).toArray⟩, .int .i64 (maskK e.kd : Int)] 38)).heap.size := by simp
  go_upto_region 2 with fail
  have l0 := hL.out.at_ 0
  have hg : B ≤ W1.heap.size := by omega
  have hg0 : B ≤ w.heap.size := hB
  generalize W1.alloc (.cells #[.string ⟨(wordK e.kd).toArray⟩, .int .i64 (maskK e.kd : Int)] 38) = W2 at *
  generalize W1.heap.size = g at *
  clear hE1 HB1 HK1 HO1
  have HN := Lib.hid hn
  clear hn
  have HS2 := Lib.hid (show WrSt B w e w.heap.size g v l W2 from ⟨HO2.out, hE2.out, hL.out, hB2.out, hK2.out, hg0, hg, hB⟩)
  clear hE2 hL hB2 hK2 HO2
  go_upto_region 3 with
    (at_builtin
     refine wpList_appS rfl (.tmp 11) (.tmp 13) rfl rfl HS2.out.own rfl (by have := HN.out; omega) HS2.out.le ?_
     intro v3 W3 hown3 hg3
     have HS3 := Lib.hid (HS2.out.grow hown3 hg3)
     clear hown3 hg3 l0 HS2)
  have e0 := HS3.out.ev.at_ 0
  have e1 := HS3.out.ev.at_ 1
  have e2 := HS3.out.ev.at_ 2
  have e3 := HS3.out.ev.at_ 3
  have e4 := HS3.out.ev.at_ 4
  have i1 := index_four e.wk e.tk e.ot e.lv
  go_wp2_with fail
  (with_reducible refine (numbers_any _ _).mono ?_)
  rintro en W4 ⟨rfl, hb⟩
  have HS4 := Lib.hid (HS3.out.below hb)
  clear hb e0 e1 e2 e3 e4 HS3
  go_wp2_with fail
  go_loopw [0, 17] (fun v i wr => WrR B w e l w.heap.size g v i wr) (fun _ i _ => 4 - (intOf i).toNat)
  case atStart => exact ⟨0, by omega, rfl, by simpa [fieldsUp] using HS4.out⟩
  case round =>
    obtain ⟨k, hk, rfl, hst⟩ := hrel
    have HS := Lib.hid hst
    clear hst HS4
    by_cases hlt : k < 4
    · have l0 := HS.out.ln.at_ 0
      have l1 := HS.out.ln.at_ 1
      have hi := fun (W : World) => i1 k hlt W
      have hv : ([e.wk, e.tk, e.ot, e.lv] : List Int).getD k 0 = (numsE e).getD k 0 := rfl
      rw [hv] at hi
      clear hv i1
      have HY := Lib.hid (fun h => fieldsUp_yes (e := e) (k := k) h)
      have HNo := Lib.hid (fun h => fieldsUp_no (e := e) (k := k) h)
      obtain ⟨hv0, hv1⟩ := hnb.out k
      generalize hvv : (numsE e).getD k 0 = u at *
      clear hvv
      go_upto_region 6 with fail
      go_wp2_with fail
      (with_reducible refine (contains_any _ _ k hml hlt _).mono ?_)
      rintro en W5 ⟨rfl, hb⟩
      have HS5 := Lib.hid (HS.out.below hb)
      clear hb l0 l1 HS
      have hlen : (l ++ (wordK e.kd ++ fieldsUp e k)).length ≤ 60000000 := by
        have h1 := hfl.out k
        have h2 := HN.out
        simp only [List.length_append]
        omega
      have HLen := Lib.hid hlen
      clear hlen
      cases hh : hasF (maskK e.kd) k with
      | true =>
        have HF := Lib.hid (HY.out hh)
        clear hh
        go_upto_region 8 with
          (at_builtin
           refine wpList_appY (ns := [32]) rfl (.tmp 24) (.tmp 25) rfl rfl (HS5.out.alloc _).own rfl rfl (one_cellY _ 32) (by have := HLen.out; omega) (HS5.out.alloc _).le ?_
           intro v6 W6 hown6 hg6
           have HS6 := Lib.hid ((HS5.out.alloc _).grow hown6 hg6)
           clear hown6 hg6 HS5)
        go_wp2_with fail
        (with_reducible refine (appInt_any (HLib.out.on HS6.out.bel) HS6.out.own HS6.out.le ?hlen u hv0 hv1).mono ?_)
        case hlen => have := HLen.out; simp only [List.length_append] at this ⊢; simp only [List.length_cons, List.length_nil]; omega
        rintro en W7 ⟨v7, rfl, hown7, hb7, hk7⟩
        have HS7 := Lib.hid (HS6.out.step hb7 hk7 hown7)
        clear hown7 hb7 hk7 HS6
        go_wp2_with fail
        go_roundw
        case rel => exact ⟨k + 1, by omega, by go_num, by rw [HF.out]; have := HS7.out; simpa only [List.append_assoc] using this⟩
        case measure => simp [intOf]; omega
      | false =>
        have HF := Lib.hid (HNo.out hh)
        clear hh
        go_wp2_with fail
        go_roundw
        case rel => exact ⟨k + 1, by omega, by go_num, by rw [HF.out]; exact HS5.out⟩
        case measure => simp [intOf]; omega
    · have h4 : k = 4 := by omega
      subst h4
      go_wp2_with fail
      go_ret
      exact ⟨_, rfl, HS.out.own, HS.out.bel, HS.out.kept⟩
end Go.Proofs.YtcjiikaiobomeaaDoor
