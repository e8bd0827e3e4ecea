/-
  The reference's SameRecords: two rows of the same records.
  An == between two structs of ints.
  The reference's Same: are two lists of events equal?
  Package memory: Count.
  Contracts of package memory: New, Size, Peek, Count, Last, Cells.
  Package clock: Now.
-/
import Derived.Test.YtheimjcgpbmecaaGreatMgAE
import Derived.Test.YtheimjcgpbmecaaGreatMgAS
import Derived.StillTailTactics
import Derived.RegionTactic
import Derived.BigRegion
import Derived.Deep.Cut
import Derived.Deep.CutRange
import Derived.Test.YtheimjcgpbmecaaGreatMgAA
import Derived.ChangeKeysEq
import Derived.Test.YtheimjcgpbmecaaGreatMgAR
import Derived.LoopTactic
import Derived.Deep.QuietTactic
import Derived.BigQuiet
import Derived.Lib.Hide
import Derived.WalkKit
import Derived.Test.YtheimjcgpbmecaaGreatMgAN
import Derived.Maps.AppendAt
import Derived.OwnWalk
import Derived.Deep.RegionHeld3
import Derived.Deep.OwnRows
import Derived.WalkSpells
import Derived.WalkLawsBesides
import Derived.IntWalk
namespace Go.Proofs.YtheimjcgpbmecaaGreat
open Go Go.RowKit
set_option linter.unusedSimpArgs false

theorem OwnI.inInts {w : World} {B : Nat} {v : Value} {l : List Int} (h : OwnI w B v l) : ∃ a c, v = .slice a l.length c ∧ InInts w a l.length l := by
  rcases h.2 with ⟨rfl, h2⟩ | ⟨g, cap, cur, rfl, h2, hg, hn, hc, hz, ht⟩
  · exact ⟨none, 0, by rw [h2], rfl, by omega, fun i hi => by omega⟩
  · refine ⟨_, cap, rfl, rfl, by omega, fun i hi => ⟨_, rfl, (Array.getElem?_eq_some_iff.1 hg).1, ?_⟩⟩
    have e : (⟨g, 0, none⟩ : Addr).add i = ⟨g, i, none⟩ := by unfold Addr.add; split <;> simp_all
    obtain ⟨a, c', e', _, h1⟩ := OwnI.form ⟨h.1, .inr ⟨g, cap, cur, rfl, h2, hg, hn, hc, hz, ht⟩⟩
    obtain ⟨g', rfl, h3⟩ := h1 i hi
    cases e'
    rw [e]
    exact h3

/-- A row of records, read at element i: its cells and its children. -/
theorem OwnR.cells_at {w : World} {B : Nat} {v : Value} {rs : List Rec} (h : OwnR w B v rs) {i : Nat} (hi : i < rs.length) :
    ∃ (x : Addr) (c : Nat) (ka : Option Addr) (kc : Nat), v = .slice (some x) rs.length c ∧ (x.off = 0 ∧ x.spot = none) ∧ x.block < w.heap.size ∧ InInts w ka (rs.getD i zrec).ks.length (rs.getD i zrec).ks ∧
      (∀ j, j < 7 → w.cell? ⟨x.block, i * 7 + j, none⟩ = (rcl (rs.getD i zrec) (.slice ka (rs.getD i zrec).ks.length kc))[j]?) := by
  obtain ⟨x, c, k, hv, hx, _, hk, hc, _, cs, hb⟩ := h.at_ hi
  obtain ⟨ka, kc, rfl, hin⟩ := hk.inInts
  exact ⟨x, c, ka, kc, hv, hx, hb.lt, hin, hc⟩

theorem two_new (w : World) (cs ds : Array Value) : Blk ((w.alloc (.cells cs 62)).alloc (.cells ds 62)).drew w.heap.size 62 cs ∧ Blk ((w.alloc (.cells cs 62)).alloc (.cells ds 62)).drew (w.heap.size + 1) 62 ds ∧
    Below w.heap.size w ((w.alloc (.cells cs 62)).alloc (.cells ds 62)).drew := by
  refine ⟨(Blk.made w 62 cs).of_same (Below.heap_alloc _ _ _ (by simp)), ?_, below_drew (((Below.refl _ _).alloc (Nat.le_refl _) _).alloc (by simp) _)⟩
  have := Blk.made (w.alloc (.cells cs 62)) 62 ds
  rw [show (w.alloc (.cells cs 62)).heap.size = w.heap.size + 1 by simp] at this
  exact this

set_option maxRecDepth 100000 in
set_option maxHeartbeats 4000000 in
theorem recsame_any {w : World} {B B' : Nat} {v v' : Value} {rs : List Rec} (h : OwnR w B v rs) (h' : OwnR w B' v' rs) (hm : rs.length ≤ 1000000) :
    Calls Tryz.prog 52 #[v, v'] w fun e w' => e = .returned (.bool true) ∧ Below w.heap.size w w' := by
  obtain ⟨xa, xc, hv⟩ := h.form
  obtain ⟨ya, yc, hv'⟩ := h'.form
  rw [hv, hv']
  obtain ⟨n, hn⟩ : ∃ n, rs.length = n := ⟨_, rfl⟩
  rw [hn]
  have H := Lib.hid h
  have H' := Lib.hid h'
  have HN := Lib.hid hn
  have HV := Lib.hid hv
  have HV' := Lib.hid hv'
  rw [hn] at hm
  clear h h' hn hv hv'
  go_enter Tryz.func52, Tryz.ntmps52
  go_wp2_with fail
  go_loopw [5] (fun i wr => ∃ j : Nat, j ≤ n ∧ i = .int .i64 j ∧ Below w.heap.size w wr) (fun i _ => n - (intOf i).toNat)
  case atStart => exact ⟨0, by omega, rfl, Below.refl _ _⟩
  case round =>
    obtain ⟨j, hj, rfl, hb⟩ := hrel
    by_cases hlt : j < n
    · have hR : OwnR wr B v rs := H.out.same (fun k cs t hk _ => hb.block k (Array.getElem?_eq_some_iff.1 hk).1)
      have hR' : OwnR wr B' v' rs := H'.out.same (fun k cs t hk _ => hb.block k (Array.getElem?_eq_some_iff.1 hk).1)
      obtain ⟨x, c, ka, kc, ev, hx, hxl, hin, hc⟩ := hR.cells_at (i := j) (by rw [HN.out]; exact hlt)
      obtain ⟨y, c2, kb, kd, ev2, hy, hyl, hin2, hd⟩ := hR'.cells_at (i := j) (by rw [HN.out]; exact hlt)
      rw [HV.out] at ev
      rw [HV'.out] at ev2
      cases ev
      cases ev2
      obtain ⟨r, hr⟩ : ∃ r, rs.getD j zrec = r := ⟨_, rfl⟩
      rw [hr] at hin hc hin2 hd
      obtain ⟨kn, hkn⟩ : ∃ kn, r.ks.length = kn := ⟨_, rfl⟩
      rw [hkn] at hin hc hin2 hd
      have a0 := hc 0 (by omega)
      have a1 := hc 1 (by omega)
      have a2 := hc 2 (by omega)
      have a3 := hc 3 (by omega)
      have a4 := hc 4 (by omega)
      have a5 := hc 5 (by omega)
      have a6 := hc 6 (by omega)
      have b0 := hd 0 (by omega)
      have b1 := hd 1 (by omega)
      have b2 := hd 2 (by omega)
      have b3 := hd 3 (by omega)
      have b4 := hd 4 (by omega)
      have b5 := hd 5 (by omega)
      have b6 := hd 6 (by omega)
      simp only [List.getElem?_cons_zero, List.getElem?_cons_succ] at a0 a1 a2 a3 a4 a5 a6 b0 b1 b2 b3 b4 b5 b6
      obtain ⟨xb, xo, xs⟩ := x
      obtain ⟨rfl, rfl⟩ := hx
      obtain ⟨yb, yo, ys⟩ := y
      obtain ⟨rfl, rfl⟩ := hy
      have HIN := Lib.hid hin
      have HIN2 := Lib.hid hin2
      have HBB := Lib.hid hb
      clear hR hR' hc hd hr hkn hin hin2 hb
      have a0 : wr.cell? ⟨xb, j * 7, none⟩ = some (.int .i64 r.pg) := a0
      have a1 : wr.cell? ⟨xb, j * 7 + 1, none⟩ = some (.int .i64 r.pt) := a1
      have a2 : wr.cell? ⟨xb, j * 7 + 2, none⟩ = some (.int .i64 r.pc) := a2
      have a3 : wr.cell? ⟨xb, j * 7 + 3, none⟩ = some (.int .i64 r.lf) := a3
      have a4 : wr.cell? ⟨xb, j * 7 + 4, none⟩ = some (.int .i64 r.wt) := a4
      have a5 : wr.cell? ⟨xb, j * 7 + 5, none⟩ = some (.slice ka kn kc) := a5
      have a6 : wr.cell? ⟨xb, j * 7 + 6, none⟩ = some (.bool r.st) := a6
      have b0 : wr.cell? ⟨yb, j * 7, none⟩ = some (.int .i64 r.pg) := b0
      have b1 : wr.cell? ⟨yb, j * 7 + 1, none⟩ = some (.int .i64 r.pt) := b1
      have b2 : wr.cell? ⟨yb, j * 7 + 2, none⟩ = some (.int .i64 r.pc) := b2
      have b3 : wr.cell? ⟨yb, j * 7 + 3, none⟩ = some (.int .i64 r.lf) := b3
      have b4 : wr.cell? ⟨yb, j * 7 + 4, none⟩ = some (.int .i64 r.wt) := b4
      have b5 : wr.cell? ⟨yb, j * 7 + 5, none⟩ = some (.slice kb kn kd) := b5
      have b6 : wr.cell? ⟨yb, j * 7 + 6, none⟩ = some (.bool r.st) := b6
      have hxl : xb < wr.heap.size := hxl
      have hyl : yb < wr.heap.size := hyl
      go_upto_region 6 with fail
      go_cut [6, 7] from 19 to 26 (fun s6 s7 wx => ∃ p q : Nat, s6 = .pointer (some ⟨p, 0, none⟩) ∧ s7 = .pointer (some ⟨q, 0, none⟩) ∧ Blk wx p 62 #[.int .i64 r.pg, .int .i64 r.pt, .int .i64 r.pc, .int .i64 r.lf, .int .i64 r.wt, .slice ka kn kc, .bool r.st] ∧ Blk wx q 62 #[.int .i64 r.pg, .int .i64 r.pt, .int .i64 r.pc, .int .i64 r.lf, .int .i64 r.wt, .slice kb kn kd, .bool r.st] ∧ Below wr.heap.size wr wx)
      case first =>
        go_region
        all_goals go_wp2_with fail
        all_goals go_meet
        all_goals (case rel =>
          first
          | exact ⟨_, _, rfl, rfl, (two_new wr _ _).1, (two_new wr _ _).2.1, (two_new wr _ _).2.2⟩
          | exact ⟨_, _, rfl, rfl, (two_new wr _ _).2.1, (two_new wr _ _).1, (two_new wr _ _).2.2⟩)
      case rest =>
        obtain ⟨p, q, rfl, rfl, hp, hq, hbx⟩ := hcut
        clear a0 a1 a2 a3 a4 a5 a6 b0 b1 b2 b3 b4 b5 b6
        have a0 : wc.cell? ⟨p, 0, none⟩ = some (.int .i64 r.pg) := hp.at_ 0
        have a1 : wc.cell? ⟨p, 1, none⟩ = some (.int .i64 r.pt) := hp.at_ 1
        have a2 : wc.cell? ⟨p, 2, none⟩ = some (.int .i64 r.pc) := hp.at_ 2
        have a3 : wc.cell? ⟨p, 3, none⟩ = some (.int .i64 r.lf) := hp.at_ 3
        have a4 : wc.cell? ⟨p, 4, none⟩ = some (.int .i64 r.wt) := hp.at_ 4
        have a5 : wc.cell? ⟨p, 5, none⟩ = some (.slice ka kn kc) := hp.at_ 5
        have a6 : wc.cell? ⟨p, 6, none⟩ = some (.bool r.st) := hp.at_ 6
        have b0 : wc.cell? ⟨q, 0, none⟩ = some (.int .i64 r.pg) := hq.at_ 0
        have b1 : wc.cell? ⟨q, 1, none⟩ = some (.int .i64 r.pt) := hq.at_ 1
        have b2 : wc.cell? ⟨q, 2, none⟩ = some (.int .i64 r.pc) := hq.at_ 2
        have b3 : wc.cell? ⟨q, 3, none⟩ = some (.int .i64 r.lf) := hq.at_ 3
        have b4 : wc.cell? ⟨q, 4, none⟩ = some (.int .i64 r.wt) := hq.at_ 4
        have b5 : wc.cell? ⟨q, 5, none⟩ = some (.slice kb kn kd) := hq.at_ 5
        have b6 : wc.cell? ⟨q, 6, none⟩ = some (.bool r.st) := hq.at_ 6
        have HII := Lib.hid (rints_any (HIN.out.below hbx) (HIN2.out.below hbx) kc kd)
        have HB := Lib.hid (HBB.out.trans (hbx.mono HBB.out.size))
        clear hp hq hbx
        generalize r.pg = r0 at *
        generalize r.pt = r1 at *
        generalize r.pc = r2 at *
        generalize r.lf = r3 at *
        generalize r.wt = r4 at *
        generalize r.st = r6 at *
        go_wp2_with fail
        (with_reducible refine HII.out.mono ?_)
        rintro e w5 ⟨rfl, d5, rfl⟩
        rw [decide_eq_true rfl]
        go_wp2_with fail
        go_roundw
        case rel => exact ⟨j + 1, by omega, by go_num, HB.out.trans ((below_drewN _ _).mono HB.out.size)⟩
        case measure => simp [intOf]; omega
    · obtain rfl : j = n := by omega
      have HB := Lib.hid hb
      clear hb
      go_wp2
      go_ret
      exact ⟨rfl, HB.out⟩
end Go.Proofs.YtheimjcgpbmecaaGreat

namespace Go.Proofs.YtheimjcgpbmecaaGreat
open Go Go.RowKit

theorem qeq_int (k : Nat) (x y : Int) (u : World) : (Op.equalIn (k + 1) 3 (.int .i64 x) (.int .i64 y)).run Tryz.prog u = .ok (x == y) u := by
  simp [Op.equalIn, run_underlying Tryz.underlying3]
theorem eqFields_ints (k : Nat) (xs ys : List Int) (u : World) : ∀ (fs : List Field) (is : List Nat), fs.map (fun f => (f.name == "_", f.type, f.offset)) = is.map (fun i => (false, 3, i)) → (∀ i ∈ is, i < xs.length ∧ i < ys.length) →
    (Op.eqFields (k + 1) (xs.map (Value.int .i64)).toArray (ys.map (Value.int .i64)).toArray fs).run Tryz.prog u = .ok (is.all fun i => xs.getD i 0 == ys.getD i 0) u
  | [], [], _, _ => by simp [Op.eqFields]
  | [], _ :: _, h, _ => by simp at h
  | _ :: _, [], h, _ => by simp at h
  | f :: fs, i :: is, h, hl => by
    simp only [List.map_cons, List.cons.injEq, Prod.mk.injEq] at h
    obtain ⟨⟨hn, ht, ho⟩, hr⟩ := h
    have hp : Tryz.prog.plainKey 3 = true := by kernel_rfl
    obtain ⟨h1, h2⟩ := hl i (by simp)
    have ih := eqFields_ints k xs ys u fs is hr (fun j hj => hl j (by simp [hj]))
    have g : ∀ zs : List Int, i < zs.length → (zs.map (Value.int .i64)).toArray[f.offset]? = some (.int .i64 (zs.getD i 0)) := by
      intro zs hz
      rw [ho]
      simp [hz]
    have hnm : f.name ≠ "_" := by simpa using hn
    have p1 := run_part_plain (P := Tryz.prog) u hp (g xs h1)
    have p2 := run_part_plain (P := Tryz.prog) u hp (g ys h2)
    rw [← ht] at p1 p2
    have p3 := qeq_int k (xs.getD i 0) (ys.getD i 0) u
    rw [← ht] at p3
    simp only [Op.eqFields, hnm, ne_eq, not_false_eq_true, if_true, Sem.run_bind, p1, p2, p3, Result.andThen_ok, List.all_cons]
    cases hb : (xs.getD i 0 == ys.getD i 0) with
    | false => simp
    | true => simpa using ih
end Go.Proofs.YtheimjcgpbmecaaGreat

namespace Go.Proofs.YtheimjcgpbmecaaGreat
open Go Go.RowKit
set_option linter.unusedSimpArgs false

theorem ev_eq (x y : Ev) (u : World) : (Op.equalIn 10000 24 (.agg (evV x)) (.agg (evV y))).run Tryz.prog u = .ok (decide (x = y)) u := by
  rw [show (10000 : Nat) = 9999 + 1 from rfl, run_equalIn_struct u 9999 24 _ _ (by kernel_rfl) (by kernel_rfl)]
  have h := eqFields_ints 9998 [x.kd, x.wk, x.tk, x.ot, x.lv] [y.kd, y.wk, y.tk, y.ot, y.lv] u (Tryz.prog.fieldsOf 24).toList [0, 1, 2, 3, 4] (by kernel_rfl) (by simp)
  simp only [List.map_cons, List.map_nil] at h
  refine h.trans (congrArg (fun b => Result.ok b u) ?_)
  clear h
  rw [Bool.eq_iff_iff, decide_eq_true_iff]
  obtain ⟨x0, x1, x2, x3, x4⟩ := x
  obtain ⟨y0, y1, y2, y3, y4⟩ := y
  simp
theorem ev_ne (x y : Ev) (u : World) : (binOp .neq 24 (.agg (evV x)) (.agg (evV y))).run Tryz.prog u = .ok (.bool (!decide (x = y))) u := by
  simp only [binOp, Op.equal, Op.maxDepth, Sem.run_bind, Sem.run_pure]
  rw [ev_eq x y u]
  rfl

/-- What Same gives. -/
def SameR (xs ys : List Ev) (w : World) (e : Ending) (w' : World) : Prop := e = .returned (.bool (decide (xs = ys))) ∧ ∃ d, w' = w.drewN d

theorem etake_more {zs ys : List Ev} {j : Nat} {u : Ev} (h1 : zs[j]? = some u) (h2 : ys[j]? = some u) (ht : zs.take j = ys.take j) : zs.take (j + 1) = ys.take (j + 1) := by
  rw [List.take_add_one, List.take_add_one, ht, h1, h2]

set_option maxRecDepth 100000 in
set_option maxHeartbeats 2000000 in
theorem evsame_any {w : World} {a b : Option Addr} {xs ys : List Ev} (h : InE w a xs) (h' : InE w b ys) (c c' : Nat) :
    Calls Tryz.prog 75 #[.slice a xs.length c, .slice b ys.length c'] w (SameR xs ys w) := by
  have hmax := h.1
  unfold maxLen at hmax
  obtain ⟨n, hn⟩ : ∃ n, xs.length = n := ⟨_, rfl⟩
  obtain ⟨m, hm⟩ : ∃ m, ys.length = m := ⟨_, rfl⟩
  rw [hn, hm]
  rw [hn] at hmax
  have HL := Lib.hid (And.intro hn hm)
  clear hn hm
  by_cases hnm : n = m
  · subst hnm
    have H := Lib.hid h
    have H' := Lib.hid h'
    clear h h'
    go_enter Tryz.func75, Tryz.ntmps75
    go_wp2_with fail
    go_loopw [5] (fun i wr => ∃ (j d : Nat), j ≤ n ∧ i = .int .i64 j ∧ wr = w.drewN d ∧ xs.take j = ys.take j) (fun i _ => n - (intOf i).toNat)
    case atStart => exact ⟨0, 0, by omega, rfl, rfl, by simp⟩
    case round =>
      obtain ⟨j, d, hj, rfl, rfl, ht⟩ := hrel
      have HT := Lib.hid ht
      clear ht
      by_cases hlt : j < n
      · obtain ⟨u, hu⟩ : ∃ u, xs[j]? = some u := ⟨_, List.getElem?_eq_getElem (by rw [HL.out.1]; exact hlt)⟩
        obtain ⟨v, hv⟩ : ∃ v, ys[j]? = some v := ⟨_, List.getElem?_eq_getElem (by rw [HL.out.2]; exact hlt)⟩
        obtain ⟨x, rfl, x0, x1, x2, x3, x4⟩ := H.out.at_ hu
        obtain ⟨y, rfl, y0, y1, y2, y3, y4⟩ := H'.out.at_ hv
        have HU := Lib.hid hu
        have HV := Lib.hid hv
        have hq := fun (W : World) => ev_ne u v W
        clear hu hv
        by_cases he : u = v
        · rw [decide_eq_true he] at hq
          have HE := Lib.hid he
          clear he
          go_wp2_with fail
          go_quiet (fail)
          go_wp2_with fail
          go_roundw
          case rel => exact ⟨j + 1, _, by omega, by go_num, rfl, etake_more HU.out (by rw [HE.out]; exact HV.out) HT.out⟩
          case measure => simp [intOf]; omega
        · rw [decide_eq_false he] at hq
          have HE := Lib.hid he
          clear he
          go_wp2_with fail
          go_quiet (fail)
          go_wp2
          go_ret
          refine ⟨congrArg (fun b => Ending.returned (Value.bool b)) (decide_eq_false (fun e => ?_)).symm, _, World.drewN_drewN _ _ _⟩
          have h1 := HU.out
          rw [e, HV.out] at h1
          exact HE.out (Option.some.inj h1).symm
      · obtain rfl : j = n := by omega
        have ht := HT.out
        rw [List.take_of_length_le (by rw [HL.out.1]; exact Nat.le_refl _), List.take_of_length_le (by rw [HL.out.2]; exact Nat.le_refl _)] at ht
        have HT2 := Lib.hid ht
        clear ht
        go_wp2
        go_ret
        exact ⟨congrArg (fun b => Ending.returned (Value.bool b)) (decide_eq_true HT2.out).symm, _, rfl⟩
  · have hd : ((n : Int) == (m : Int)) = false := by simp; omega
    have hne : xs ≠ ys := by
      intro e
      apply hnm
      rw [← HL.out.1, ← HL.out.2, e]
    have HNE := Lib.hid hne
    clear h h' hne
    go_enter Tryz.func75, Tryz.ntmps75
    go_wp2
    go_ret
    exact ⟨congrArg (fun b => Ending.returned (Value.bool b)) (decide_eq_false HNE.out).symm, 0, rfl⟩
end Go.Proofs.YtheimjcgpbmecaaGreat

namespace Go.Proofs.YtheimjcgpbmecaaGreat
open Go Go.RowKit

theorem count_any {w : World} {p g cap : Nat} {s : St} (h : Mem w p g cap s) :
    Calls Tryz.prog 59 #[.pointer (some ⟨p, 0, none⟩)] w fun e w' => e = .returned (.int .i64 s.c) ∧ w = w' := by
  have h0 : w.cell? ⟨p, 1, none⟩ = some (.int .i64 s.c) := h.blk.at_ 1
  go_enter Tryz.func59, Tryz.ntmps59
  go_wp2
  go_ret
  exact ⟨rfl, rfl⟩
end Go.Proofs.YtheimjcgpbmecaaGreat

namespace Go.Proofs.YtheimjcgpbmecaaGreat
open Go Go.RowKit Go.Shelf

theorem msize_any {w : World} {p g cap : Nat} {s : St} (h : Mem w p g cap s) :
    Calls Tryz.prog 38 #[.pointer (some ⟨p, 0, none⟩)] w fun e w' => e = .returned (.int .i64 s.X.length) ∧ w = w' := by
  have h0 : w.cell? ⟨p, 0, none⟩ = some (.slice (some ⟨g, 0, none⟩) s.X.length cap) := h.blk.at_ 0
  go_enter Tryz.func38, Tryz.ntmps38
  go_wp2
  go_ret
  exact ⟨rfl, rfl⟩

/-- The last access, as a value. -/
def St.last (s : St) : Value := .agg #[.int .i64 s.k, .int .i64 s.i, .int .u64 s.o, .int .u64 s.v]

theorem last_any {w : World} {p g cap : Nat} {s : St} (h : Mem w p g cap s) :
    Calls Tryz.prog 74 #[.pointer (some ⟨p, 0, none⟩)] w fun e w' => e = .returned (.agg #[.int .i64 s.k, .int .i64 s.i, .int .u64 s.o, .int .u64 s.v]) ∧ Below w.heap.size w w' := by
  have h2 : w.cell? ⟨p, 2, none⟩ = some (.int .i64 s.k) := h.blk.at_ 2
  have h3 : w.cell? ⟨p, 3, none⟩ = some (.int .i64 s.i) := h.blk.at_ 3
  have h4 : w.cell? ⟨p, 4, none⟩ = some (.int .u64 s.o) := h.blk.at_ 4
  have h5 : w.cell? ⟨p, 5, none⟩ = some (.int .u64 s.v) := h.blk.at_ 5
  have hl := h.blk.lt
  go_enter Tryz.func74, Tryz.ntmps74
  go_wp2
  exact bodyPost_ret (v := .agg #[.int .i64 s.k, .int .i64 s.i, .int .u64 s.o, .int .u64 s.v]) (by simp [results, Tryz.results74, go_sem]) rfl ⟨rfl, (Below.refl _ _).alloc (Nat.le_refl _) _⟩

/-- What slices.Clone gives: a row of the call's own, with the same cells. -/
def Cloned (w : World) (n : Nat) (X : List Int) (e : Ending) (w' : World) : Prop :=
  ∃ g cap : Nat, e = .returned (.slice (some ⟨g, 0, none⟩) n cap) ∧ w.heap.size ≤ g ∧ Row w' g n cap X ∧ Below w.heap.size w w'

theorem cloned_of {w w1 : World} {n : Nat} {X : List Int} {v' : Value} (hown : w1.ownsRow w.heap.size 50 1 v' (0 + n) ([] ++ X.map (Value.int .u64))) (hgrow : (w.alloc (.cells #[] 50)).grownBy w1 (Value.ownBlock (.slice (some ⟨w.heap.size, 0, none⟩) 0 0)))
    (hnil : v' = .slice none 0 0 ↔ Value.slice (some ⟨w.heap.size, 0, none⟩) 0 0 = .slice none 0 0 ∧ n = 0) :
    Cloned w n X (.returned v') w1 := by
  have hv : v' ≠ .slice none 0 0 := fun e => by
    have := hnil.1 e
    simp at this
  obtain ⟨g', cap', rfl, hB, hr⟩ := Row.of_own (n := n) (X := X) (by simpa using hown) hv
  exact ⟨g', cap', rfl, hB, hr, ((Below.refl _ _).alloc (Nat.le_refl _) _).grown hgrow (by simp) (by simp [Value.ownBlock])⟩

theorem clone_any {w : World} {g n cap : Nat} {X : List Int} (h : Row w g n cap X) (hn : n ≤ 131072) :
    Calls Tryz.prog 89 #[.slice (some ⟨g, 0, none⟩) n cap] w (Cloned w n X) := by
  have qT : ∀ (w : World) (a : Option Addr) (n c n' c' : Nat), (binOp .eql 49 (.slice a n c) (.slice none n' c')).run Tryz.prog w = .ok (.bool a.isNone) w := fun w a n c n' c' => Lib.run_eql_slice_nil w _ _ a n c n' c' Tryz.underlying49
  obtain ⟨i0, hi, hz0, hz1, hz2⟩ := info_parts info_u64
  go_enter Tryz.func89, Tryz.ntmps89
  go_wp2_with
    (at_builtin
     refine wpList_append_own_at _ rfl (.tmp 5) (.tmp 6) _ rfl w.heap.size 50 i0 _ 1 8 Tryz.underlying49 hi hz0 hz1 hz2 rfl (by omega) (.slice (some ⟨w.heap.size, 0, none⟩) 0 0) 0 [] rfl
       (World.ownsRow_made w #[] 0 (Nat.le_refl _) (by unfold maxLen; omega) rfl) ⟨g, 0, none⟩ n cap (X.map (Value.int .u64)) rfl (by simpa using h.len) ((h.alloc _).own.cells rfl) (by simp [Value.oneCell'])
       (by unfold maxLen; omega) (by omega) (by simp) ?_
     intro v' w1 hown hgrow hnil hat)
  go_ret
  exact cloned_of hown hgrow hnil

theorem cells_any {w : World} {p g cap : Nat} {s : St} (h : Mem w p g cap s) :
    Calls Tryz.prog 73 #[.pointer (some ⟨p, 0, none⟩)] w (Cloned w s.X.length s.X) := by
  have h0 : w.cell? ⟨p, 0, none⟩ = some (.slice (some ⟨g, 0, none⟩) s.X.length cap) := h.blk.at_ 0
  have H := Lib.hid (clone_any h.row h.small)
  have hN : ∀ e w', Cloned w s.X.length s.X e w' → ∃ v, e = .returned v ∧ Cloned w s.X.length s.X (.returned v) w' := fun e w' ⟨g', cap', he, hr⟩ => ⟨_, he, g', cap', rfl, hr⟩
  have HN := Lib.hid hN
  clear hN
  go_enter Tryz.func73, Tryz.ntmps73
  go_wp2_with fail
  refine H.out.mono ?_
  intro e w' hC
  obtain ⟨v, rfl, hC⟩ := HN.out e w' hC
  go_wp2
  go_ret
  exact hC
end Go.Proofs.YtheimjcgpbmecaaGreat

namespace Go.Proofs.YtheimjcgpbmecaaGreat
open Go Go.RowKit

theorem now_any {w : World} {p : Nat} {t d : Int} (h : Clk w p t d) :
    Calls Tryz.prog 20 #[.pointer (some ⟨p, 0, none⟩)] w fun e w' => e = .returned (.int .i64 t) ∧ w = w' := by
  have h0 : w.cell? ⟨p, 0, none⟩ = some (.int .i64 t) := Blk.at_ h 0
  go_enter Tryz.func20, Tryz.ntmps20
  go_wp2
  go_ret
  exact ⟨rfl, rfl⟩

end Go.Proofs.YtheimjcgpbmecaaGreat
