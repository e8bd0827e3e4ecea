/-
  The reference's SameRecords: two rows of the same records.
-/
import Derived.Test.YtanbjdlaolgepaaGreatMgAE
import Derived.Test.YtanbjdlaolgepaaGreatMgAO
import Derived.StillTailTactics
import Derived.RegionTactic
import Derived.BigRegion
import Derived.Deep.Cut
import Derived.Deep.CutRange
namespace Go.Proofs.YtanbjdlaolgepaaGreat
open Go Go.RowKit
set_option linter.unusedSimpArgs false

theorem OwnI.inInts {w : World} {B : Nat} {v : Value} {l : List Int} (h : OwnI w B v l) : ∃ a c, v = .slice a l.length c ∧ InInts w a l.length l := by
  rcases h.2 with ⟨rfl, h2⟩ | ⟨g, cap, cur, rfl, h2, hg, hn, hc, hz, ht⟩
  · exact ⟨none, 0, by rw [h2], rfl, by omega, fun i hi => by omega⟩
  · refine ⟨_, cap, rfl, rfl, by omega, fun i hi => ⟨_, rfl, (Array.getElem?_eq_some_iff.1 hg).1, ?_⟩⟩
    have e : (⟨g, 0, none⟩ : Addr).add i = ⟨g, i, none⟩ := by unfold Addr.add; split <;> simp_all
    obtain ⟨a, c', e', _, h1⟩ := OwnI.form ⟨h.1, .inr ⟨g, cap, cur, rfl, h2, hg, hn, hc, hz, ht⟩⟩
    obtain ⟨g', rfl, h3⟩ := h1 i hi
    cases e'
    rw [e]
    exact h3

/-- A row of records, read at element i: its cells and its children. -/
theorem OwnR.cells_at {w : World} {B : Nat} {v : Value} {rs : List Rec} (h : OwnR w B v rs) {i : Nat} (hi : i < rs.length) :
    ∃ (x : Addr) (c : Nat) (ka : Option Addr) (kc : Nat), v = .slice (some x) rs.length c ∧ (x.off = 0 ∧ x.spot = none) ∧ x.block < w.heap.size ∧ InInts w ka (rs.getD i zrec).ks.length (rs.getD i zrec).ks ∧
      (∀ j, j < 7 → w.cell? ⟨x.block, i * 7 + j, none⟩ = (rcl (rs.getD i zrec) (.slice ka (rs.getD i zrec).ks.length kc))[j]?) := by
  obtain ⟨x, c, k, hv, hx, _, hk, hc, _, cs, hb⟩ := h.at_ hi
  obtain ⟨ka, kc, rfl, hin⟩ := hk.inInts
  exact ⟨x, c, ka, kc, hv, hx, hb.lt, hin, hc⟩

theorem two_new (w : World) (cs ds : Array Value) : Blk ((w.alloc (.cells cs 119)).alloc (.cells ds 119)).drew w.heap.size 119 cs ∧ Blk ((w.alloc (.cells cs 119)).alloc (.cells ds 119)).drew (w.heap.size + 1) 119 ds ∧
    Below w.heap.size w ((w.alloc (.cells cs 119)).alloc (.cells ds 119)).drew := by
  refine ⟨(Blk.made w 119 cs).of_same (Below.heap_alloc _ _ _ (by simp)), ?_, below_drew (((Below.refl _ _).alloc (Nat.le_refl _) _).alloc (by simp) _)⟩
  have := Blk.made (w.alloc (.cells cs 119)) 119 ds
  rw [show (w.alloc (.cells cs 119)).heap.size = w.heap.size + 1 by simp] at this
  exact this

set_option maxRecDepth 100000 in
set_option maxHeartbeats 4000000 in
theorem recsame_any {w : World} {B B' : Nat} {v v' : Value} {rs : List Rec} (h : OwnR w B v rs) (h' : OwnR w B' v' rs) (hm : rs.length ≤ 1000000) :
    Calls Tryz.prog 69 #[v, v'] w fun e w' => e = .returned (.bool true) ∧ Below w.heap.size w w' := by
  obtain ⟨xa, xc, hv⟩ := h.form
  obtain ⟨ya, yc, hv'⟩ := h'.form
  rw [hv, hv']
  obtain ⟨n, hn⟩ : ∃ n, rs.length = n := ⟨_, rfl⟩
  rw [hn]
  have H := Lib.hid h
  have H' := Lib.hid h'
  have HN := Lib.hid hn
  have HV := Lib.hid hv
  have HV' := Lib.hid hv'
  rw [hn] at hm
  clear h h' hn hv hv'
  go_enter Tryz.func69, Tryz.ntmps69
  go_wp2_with fail
  go_loopw [5] (fun i wr => ∃ j : Nat, j ≤ n ∧ i = .int .i64 j ∧ Below w.heap.size w wr) (fun i _ => n - (intOf i).toNat)
  case atStart => exact ⟨0, by omega, rfl, Below.refl _ _⟩
  case round =>
    obtain ⟨j, hj, rfl, hb⟩ := hrel
    by_cases hlt : j < n
    · have hR : OwnR wr B v rs := H.out.same (fun k cs t hk _ => hb.block k (Array.getElem?_eq_some_iff.1 hk).1)
      have hR' : OwnR wr B' v' rs := H'.out.same (fun k cs t hk _ => hb.block k (Array.getElem?_eq_some_iff.1 hk).1)
      obtain ⟨x, c, ka, kc, ev, hx, hxl, hin, hc⟩ := hR.cells_at (i := j) (by rw [HN.out]; exact hlt)
      obtain ⟨y, c2, kb, kd, ev2, hy, hyl, hin2, hd⟩ := hR'.cells_at (i := j) (by rw [HN.out]; exact hlt)
      rw [HV.out] at ev
      rw [HV'.out] at ev2
      cases ev
      cases ev2
      obtain ⟨r, hr⟩ : ∃ r, rs.getD j zrec = r := ⟨_, rfl⟩
      rw [hr] at hin hc hin2 hd
      obtain ⟨kn, hkn⟩ : ∃ kn, r.ks.length = kn := ⟨_, rfl⟩
      rw [hkn] at hin hc hin2 hd
      have a0 := hc 0 (by omega)
      have a1 := hc 1 (by omega)
      have a2 := hc 2 (by omega)
      have a3 := hc 3 (by omega)
      have a4 := hc 4 (by omega)
      have a5 := hc 5 (by omega)
      have a6 := hc 6 (by omega)
      have b0 := hd 0 (by omega)
      have b1 := hd 1 (by omega)
      have b2 := hd 2 (by omega)
      have b3 := hd 3 (by omega)
      have b4 := hd 4 (by omega)
      have b5 := hd 5 (by omega)
      have b6 := hd 6 (by omega)
      simp only [List.getElem?_cons_zero, List.getElem?_cons_succ] at a0 a1 a2 a3 a4 a5 a6 b0 b1 b2 b3 b4 b5 b6
      obtain ⟨xb, xo, xs⟩ := x
      obtain ⟨rfl, rfl⟩ := hx
      obtain ⟨yb, yo, ys⟩ := y
      obtain ⟨rfl, rfl⟩ := hy
      have HIN := Lib.hid hin
      have HIN2 := Lib.hid hin2
      have HBB := Lib.hid hb
      clear hR hR' hc hd hr hkn hin hin2 hb
      have a0 : wr.cell? ⟨xb, j * 7, none⟩ = some (.int .i64 r.pg) := a0
      have a1 : wr.cell? ⟨xb, j * 7 + 1, none⟩ = some (.int .i64 r.pt) := a1
      have a2 : wr.cell? ⟨xb, j * 7 + 2, none⟩ = some (.int .i64 r.pc) := a2
      have a3 : wr.cell? ⟨xb, j * 7 + 3, none⟩ = some (.int .i64 r.lf) := a3
      have a4 : wr.cell? ⟨xb, j * 7 + 4, none⟩ = some (.int .i64 r.wt) := a4
      have a5 : wr.cell? ⟨xb, j * 7 + 5, none⟩ = some (.slice ka kn kc) := a5
      have a6 : wr.cell? ⟨xb, j * 7 + 6, none⟩ = some (.bool r.st) := a6
      have b0 : wr.cell? ⟨yb, j * 7, none⟩ = some (.int .i64 r.pg) := b0
      have b1 : wr.cell? ⟨yb, j * 7 + 1, none⟩ = some (.int .i64 r.pt) := b1
      have b2 : wr.cell? ⟨yb, j * 7 + 2, none⟩ = some (.int .i64 r.pc) := b2
      have b3 : wr.cell? ⟨yb, j * 7 + 3, none⟩ = some (.int .i64 r.lf) := b3
      have b4 : wr.cell? ⟨yb, j * 7 + 4, none⟩ = some (.int .i64 r.wt) := b4
      have b5 : wr.cell? ⟨yb, j * 7 + 5, none⟩ = some (.slice kb kn kd) := b5
      have b6 : wr.cell? ⟨yb, j * 7 + 6, none⟩ = some (.bool r.st) := b6
      have hxl : xb < wr.heap.size := hxl
      have hyl : yb < wr.heap.size := hyl
      go_upto_region 6 with fail
      go_cut [6, 7] from 19 to 26 (fun s6 s7 wx => ∃ p q : Nat, s6 = .pointer (some ⟨p, 0, none⟩) ∧ s7 = .pointer (some ⟨q, 0, none⟩) ∧ Blk wx p 119 #[.int .i64 r.pg, .int .i64 r.pt, .int .i64 r.pc, .int .i64 r.lf, .int .i64 r.wt, .slice ka kn kc, .bool r.st] ∧ Blk wx q 119 #[.int .i64 r.pg, .int .i64 r.pt, .int .i64 r.pc, .int .i64 r.lf, .int .i64 r.wt, .slice kb kn kd, .bool r.st] ∧ Below wr.heap.size wr wx)
      case first =>
        go_region
        all_goals go_wp2_with fail
        all_goals go_meet
        all_goals (case rel =>
          first
          | exact ⟨_, _, rfl, rfl, (two_new wr _ _).1, (two_new wr _ _).2.1, (two_new wr _ _).2.2⟩
          | exact ⟨_, _, rfl, rfl, (two_new wr _ _).2.1, (two_new wr _ _).1, (two_new wr _ _).2.2⟩)
      case rest =>
        obtain ⟨p, q, rfl, rfl, hp, hq, hbx⟩ := hcut
        clear a0 a1 a2 a3 a4 a5 a6 b0 b1 b2 b3 b4 b5 b6
        have a0 : wc.cell? ⟨p, 0, none⟩ = some (.int .i64 r.pg) := hp.at_ 0
        have a1 : wc.cell? ⟨p, 1, none⟩ = some (.int .i64 r.pt) := hp.at_ 1
        have a2 : wc.cell? ⟨p, 2, none⟩ = some (.int .i64 r.pc) := hp.at_ 2
        have a3 : wc.cell? ⟨p, 3, none⟩ = some (.int .i64 r.lf) := hp.at_ 3
        have a4 : wc.cell? ⟨p, 4, none⟩ = some (.int .i64 r.wt) := hp.at_ 4
        have a5 : wc.cell? ⟨p, 5, none⟩ = some (.slice ka kn kc) := hp.at_ 5
        have a6 : wc.cell? ⟨p, 6, none⟩ = some (.bool r.st) := hp.at_ 6
        have b0 : wc.cell? ⟨q, 0, none⟩ = some (.int .i64 r.pg) := hq.at_ 0
        have b1 : wc.cell? ⟨q, 1, none⟩ = some (.int .i64 r.pt) := hq.at_ 1
        have b2 : wc.cell? ⟨q, 2, none⟩ = some (.int .i64 r.pc) := hq.at_ 2
        have b3 : wc.cell? ⟨q, 3, none⟩ = some (.int .i64 r.lf) := hq.at_ 3
        have b4 : wc.cell? ⟨q, 4, none⟩ = some (.int .i64 r.wt) := hq.at_ 4
        have b5 : wc.cell? ⟨q, 5, none⟩ = some (.slice kb kn kd) := hq.at_ 5
        have b6 : wc.cell? ⟨q, 6, none⟩ = some (.bool r.st) := hq.at_ 6
        have HII := Lib.hid (rints_any (HIN.out.below hbx) (HIN2.out.below hbx) kc kd)
        have HB := Lib.hid (HBB.out.trans (hbx.mono HBB.out.size))
        clear hp hq hbx
        generalize r.pg = r0 at *
        generalize r.pt = r1 at *
        generalize r.pc = r2 at *
        generalize r.lf = r3 at *
        generalize r.wt = r4 at *
        generalize r.st = r6 at *
        go_wp2_with fail
        (with_reducible refine HII.out.mono ?_)
        rintro e w5 ⟨rfl, d5, rfl⟩
        rw [decide_eq_true rfl]
        go_wp2_with fail
        go_roundw
        case rel => exact ⟨j + 1, by omega, by go_num, HB.out.trans ((below_drewN _ _).mono HB.out.size)⟩
        case measure => simp [intOf]; omega
    · obtain rfl : j = n := by omega
      have HB := Lib.hid hb
      clear hb
      go_wp2
      go_ret
      exact ⟨rfl, HB.out⟩
end Go.Proofs.YtanbjdlaolgepaaGreat
