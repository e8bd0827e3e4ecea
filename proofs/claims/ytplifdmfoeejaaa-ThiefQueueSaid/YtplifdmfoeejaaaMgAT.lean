/-
  The reference's SameRecords: two rows of the same records.
  An == between two structs of ints.
  The reference's Same: are two lists of events equal?
-/
import Derived.Test.YtplifdmfoeejaaaMgAR
import Derived.Test.YtplifdmfoeejaaaMgAS
import Derived.StillTailTactics
import Derived.RegionTactic
import Derived.BigRegion
import Derived.Deep.Cut
import Derived.Deep.CutRange
import Derived.Test.YtplifdmfoeejaaaMgAA
import Derived.ChangeKeysEq
import Derived.Test.YtplifdmfoeejaaaMgAN
import Derived.LoopTactic
import Derived.Deep.QuietTactic
import Derived.BigQuiet
import Derived.Lib.Hide
namespace Go.Proofs.Ytplifdmfoeejaaa
open Go Go.RowKit
set_option linter.unusedSimpArgs false

theorem OwnI.inInts {w : World} {B : Nat} {v : Value} {l : List Int} (h : OwnI w B v l) : ∃ a c, v = .slice a l.length c ∧ InInts w a l.length l := by
  rcases h.2 with ⟨rfl, h2⟩ | ⟨g, cap, cur, rfl, h2, hg, hn, hc, hz, ht⟩
  · exact ⟨none, 0, by rw [h2], rfl, by omega, fun i hi => by omega⟩
  · refine ⟨_, cap, rfl, rfl, by omega, fun i hi => ⟨_, rfl, (Array.getElem?_eq_some_iff.1 hg).1, ?_⟩⟩
    have e : (⟨g, 0, none⟩ : Addr).add i = ⟨g, i, none⟩ := by unfold Addr.add; split <;> simp_all
    obtain ⟨a, c', e', _, h1⟩ := OwnI.form ⟨h.1, .inr ⟨g, cap, cur, rfl, h2, hg, hn, hc, hz, ht⟩⟩
    obtain ⟨g', rfl, h3⟩ := h1 i hi
    cases e'
    rw [e]
    exact h3

/-- A row of records, read at element i: its cells and its children. -/
theorem OwnR.cells_at {w : World} {B : Nat} {v : Value} {rs : List Rec} (h : OwnR w B v rs) {i : Nat} (hi : i < rs.length) :
    ∃ (x : Addr) (c : Nat) (ka : Option Addr) (kc : Nat), v = .slice (some x) rs.length c ∧ (x.off = 0 ∧ x.spot = none) ∧ x.block < w.heap.size ∧ InInts w ka (rs.getD i zrec).ks.length (rs.getD i zrec).ks ∧
      (∀ j, j < 7 → w.cell? ⟨x.block, i * 7 + j, none⟩ = (rcl (rs.getD i zrec) (.slice ka (rs.getD i zrec).ks.length kc))[j]?) := by
  obtain ⟨x, c, k, hv, hx, _, hk, hc, _, cs, hb⟩ := h.at_ hi
  obtain ⟨ka, kc, rfl, hin⟩ := hk.inInts
  exact ⟨x, c, ka, kc, hv, hx, hb.lt, hin, hc⟩

theorem two_new (w : World) (cs ds : Array Value) : Blk ((w.alloc (.cells cs 118)).alloc (.cells ds 118)).drew w.heap.size 118 cs ∧ Blk ((w.alloc (.cells cs 118)).alloc (.cells ds 118)).drew (w.heap.size + 1) 118 ds ∧
    Below w.heap.size w ((w.alloc (.cells cs 118)).alloc (.cells ds 118)).drew := by
  refine ⟨(Blk.made w 118 cs).of_same (Below.heap_alloc _ _ _ (by simp)), ?_, below_drew (((Below.refl _ _).alloc (Nat.le_refl _) _).alloc (by simp) _)⟩
  have := Blk.made (w.alloc (.cells cs 118)) 118 ds
  rw [show (w.alloc (.cells cs 118)).heap.size = w.heap.size + 1 by simp] at this
  exact this

set_option maxRecDepth 100000 in
set_option maxHeartbeats 4000000 in
theorem recsame_any {w : World} {B B' : Nat} {v v' : Value} {rs : List Rec} (h : OwnR w B v rs) (h' : OwnR w B' v' rs) (hm : rs.length ≤ 1000000) :
    Calls Try.prog 48 #[v, v'] w fun e w' => e = .returned (.bool true) ∧ Below w.heap.size w w' := by
  obtain ⟨xa, xc, hv⟩ := h.form
  obtain ⟨ya, yc, hv'⟩ := h'.form
  rw [hv, hv']
  obtain ⟨n, hn⟩ : ∃ n, rs.length = n := ⟨_, rfl⟩
  rw [hn]
  have H := Lib.hid h
  have H' := Lib.hid h'
  have HN := Lib.hid hn
  have HV := Lib.hid hv
  have HV' := Lib.hid hv'
  rw [hn] at hm
  clear h h' hn hv hv'
  go_enter Try.func48, Try.ntmps48
  go_wp2_with fail
  go_loopw [5] (fun i wr => ∃ j : Nat, j ≤ n ∧ i = .int .i64 j ∧ Below w.heap.size w wr) (fun i _ => n - (intOf i).toNat)
  case atStart => exact ⟨0, by omega, rfl, Below.refl _ _⟩
  case round =>
    obtain ⟨j, hj, rfl, hb⟩ := hrel
    by_cases hlt : j < n
    · have hR : OwnR wr B v rs := H.out.same (fun k cs t hk _ => hb.block k (Array.getElem?_eq_some_iff.1 hk).1)
      have hR' : OwnR wr B' v' rs := H'.out.same (fun k cs t hk _ => hb.block k (Array.getElem?_eq_some_iff.1 hk).1)
      obtain ⟨x, c, ka, kc, ev, hx, hxl, hin, hc⟩ := hR.cells_at (i := j) (by rw [HN.out]; exact hlt)
      obtain ⟨y, c2, kb, kd, ev2, hy, hyl, hin2, hd⟩ := hR'.cells_at (i := j) (by rw [HN.out]; exact hlt)
      rw [HV.out] at ev
      rw [HV'.out] at ev2
      cases ev
      cases ev2
      obtain ⟨r, hr⟩ : ∃ r, rs.getD j zrec = r := ⟨_, rfl⟩
      rw [hr] at hin hc hin2 hd
      obtain ⟨kn, hkn⟩ : ∃ kn, r.ks.length = kn := ⟨_, rfl⟩
      rw [hkn] at hin hc hin2 hd
      have a0 := hc 0 (by omega)
      have a1 := hc 1 (by omega)
      have a2 := hc 2 (by omega)
      have a3 := hc 3 (by omega)
      have a4 := hc 4 (by omega)
      have a5 := hc 5 (by omega)
      have a6 := hc 6 (by omega)
      have b0 := hd 0 (by omega)
      have b1 := hd 1 (by omega)
      have b2 := hd 2 (by omega)
      have b3 := hd 3 (by omega)
      have b4 := hd 4 (by omega)
      have b5 := hd 5 (by omega)
      have b6 := hd 6 (by omega)
      simp only [List.getElem?_cons_zero, List.getElem?_cons_succ] at a0 a1 a2 a3 a4 a5 a6 b0 b1 b2 b3 b4 b5 b6
      obtain ⟨xb, xo, xs⟩ := x
      obtain ⟨rfl, rfl⟩ := hx
      obtain ⟨yb, yo, ys⟩ := y
      obtain ⟨rfl, rfl⟩ := hy
      have HIN := Lib.hid hin
      have HIN2 := Lib.hid hin2
      have HBB := Lib.hid hb
      clear hR hR' hc hd hr hkn hin hin2 hb
      have a0 : wr.cell? ⟨xb, j * 7, none⟩ = some (.int .i64 r.pg) := a0
      have a1 : wr.cell? ⟨xb, j * 7 + 1, none⟩ = some (.int .i64 r.pt) := a1
      have a2 : wr.cell? ⟨xb, j * 7 + 2, none⟩ = some (.int .i64 r.pc) := a2
      have a3 : wr.cell? ⟨xb, j * 7 + 3, none⟩ = some (.int .i64 r.lf) := a3
      have a4 : wr.cell? ⟨xb, j * 7 + 4, none⟩ = some (.int .i64 r.wt) := a4
      have a5 : wr.cell? ⟨xb, j * 7 + 5, none⟩ = some (.slice ka kn kc) := a5
      have a6 : wr.cell? ⟨xb, j * 7 + 6, none⟩ = some (.bool r.st) := a6
      have b0 : wr.cell? ⟨yb, j * 7, none⟩ = some (.int .i64 r.pg) := b0
      have b1 : wr.cell? ⟨yb, j * 7 + 1, none⟩ = some (.int .i64 r.pt) := b1
      have b2 : wr.cell? ⟨yb, j * 7 + 2, none⟩ = some (.int .i64 r.pc) := b2
      have b3 : wr.cell? ⟨yb, j * 7 + 3, none⟩ = some (.int .i64 r.lf) := b3
      have b4 : wr.cell? ⟨yb, j * 7 + 4, none⟩ = some (.int .i64 r.wt) := b4
      have b5 : wr.cell? ⟨yb, j * 7 + 5, none⟩ = some (.slice kb kn kd) := b5
      have b6 : wr.cell? ⟨yb, j * 7 + 6, none⟩ = some (.bool r.st) := b6
      have hxl : xb < wr.heap.size := hxl
      have hyl : yb < wr.heap.size := hyl
      go_upto_region 6 with fail
      go_cut [6, 7] from 19 to 26 (fun s6 s7 wx => ∃ p q : Nat, s6 = .pointer (some ⟨p, 0, none⟩) ∧ s7 = .pointer (some ⟨q, 0, none⟩) ∧ Blk wx p 118 #[.int .i64 r.pg, .int .i64 r.pt, .int .i64 r.pc, .int .i64 r.lf, .int .i64 r.wt, .slice ka kn kc, .bool r.st] ∧ Blk wx q 118 #[.int .i64 r.pg, .int .i64 r.pt, .int .i64 r.pc, .int .i64 r.lf, .int .i64 r.wt, .slice kb kn kd, .bool r.st] ∧ Below wr.heap.size wr wx)
      case first =>
        go_region
        all_goals go_wp2_with fail
        all_goals go_meet
        all_goals (case rel =>
          first
          | exact ⟨_, _, rfl, rfl, (two_new wr _ _).1, (two_new wr _ _).2.1, (two_new wr _ _).2.2⟩
          | exact ⟨_, _, rfl, rfl, (two_new wr _ _).2.1, (two_new wr _ _).1, (two_new wr _ _).2.2⟩)
      case rest =>
        obtain ⟨p, q, rfl, rfl, hp, hq, hbx⟩ := hcut
        clear a0 a1 a2 a3 a4 a5 a6 b0 b1 b2 b3 b4 b5 b6
        have a0 : wc.cell? ⟨p, 0, none⟩ = some (.int .i64 r.pg) := hp.at_ 0
        have a1 : wc.cell? ⟨p, 1, none⟩ = some (.int .i64 r.pt) := hp.at_ 1
        have a2 : wc.cell? ⟨p, 2, none⟩ = some (.int .i64 r.pc) := hp.at_ 2
        have a3 : wc.cell? ⟨p, 3, none⟩ = some (.int .i64 r.lf) := hp.at_ 3
        have a4 : wc.cell? ⟨p, 4, none⟩ = some (.int .i64 r.wt) := hp.at_ 4
        have a5 : wc.cell? ⟨p, 5, none⟩ = some (.slice ka kn kc) := hp.at_ 5
        have a6 : wc.cell? ⟨p, 6, none⟩ = some (.bool r.st) := hp.at_ 6
        have b0 : wc.cell? ⟨q, 0, none⟩ = some (.int .i64 r.pg) := hq.at_ 0
        have b1 : wc.cell? ⟨q, 1, none⟩ = some (.int .i64 r.pt) := hq.at_ 1
        have b2 : wc.cell? ⟨q, 2, none⟩ = some (.int .i64 r.pc) := hq.at_ 2
        have b3 : wc.cell? ⟨q, 3, none⟩ = some (.int .i64 r.lf) := hq.at_ 3
        have b4 : wc.cell? ⟨q, 4, none⟩ = some (.int .i64 r.wt) := hq.at_ 4
        have b5 : wc.cell? ⟨q, 5, none⟩ = some (.slice kb kn kd) := hq.at_ 5
        have b6 : wc.cell? ⟨q, 6, none⟩ = some (.bool r.st) := hq.at_ 6
        have HII := Lib.hid (rints_any (HIN.out.below hbx) (HIN2.out.below hbx) kc kd)
        have HB := Lib.hid (HBB.out.trans (hbx.mono HBB.out.size))
        clear hp hq hbx
        generalize r.pg = r0 at *
        generalize r.pt = r1 at *
        generalize r.pc = r2 at *
        generalize r.lf = r3 at *
        generalize r.wt = r4 at *
        generalize r.st = r6 at *
        go_wp2_with fail
        (with_reducible refine HII.out.mono ?_)
        rintro e w5 ⟨rfl, d5, rfl⟩
        rw [decide_eq_true rfl]
        go_wp2_with fail
        go_roundw
        case rel => exact ⟨j + 1, by omega, by go_num, HB.out.trans ((below_drewN _ _).mono HB.out.size)⟩
        case measure => simp [intOf]; omega
    · obtain rfl : j = n := by omega
      have HB := Lib.hid hb
      clear hb
      go_wp2
      go_ret
      exact ⟨rfl, HB.out⟩
end Go.Proofs.Ytplifdmfoeejaaa

namespace Go.Proofs.Ytplifdmfoeejaaa
open Go Go.RowKit

theorem qeq_int (k : Nat) (x y : Int) (u : World) : (Op.equalIn (k + 1) 3 (.int .i64 x) (.int .i64 y)).run Try.prog u = .ok (x == y) u := by
  simp [Op.equalIn, run_underlying Try.underlying3]
theorem eqFields_ints (k : Nat) (xs ys : List Int) (u : World) : ∀ (fs : List Field) (is : List Nat), fs.map (fun f => (f.name == "_", f.type, f.offset)) = is.map (fun i => (false, 3, i)) → (∀ i ∈ is, i < xs.length ∧ i < ys.length) →
    (Op.eqFields (k + 1) (xs.map (Value.int .i64)).toArray (ys.map (Value.int .i64)).toArray fs).run Try.prog u = .ok (is.all fun i => xs.getD i 0 == ys.getD i 0) u
  | [], [], _, _ => by simp [Op.eqFields]
  | [], _ :: _, h, _ => by simp at h
  | _ :: _, [], h, _ => by simp at h
  | f :: fs, i :: is, h, hl => by
    simp only [List.map_cons, List.cons.injEq, Prod.mk.injEq] at h
    obtain ⟨⟨hn, ht, ho⟩, hr⟩ := h
    have hp : Try.prog.plainKey 3 = true := by kernel_rfl
    obtain ⟨h1, h2⟩ := hl i (by simp)
    have ih := eqFields_ints k xs ys u fs is hr (fun j hj => hl j (by simp [hj]))
    have g : ∀ zs : List Int, i < zs.length → (zs.map (Value.int .i64)).toArray[f.offset]? = some (.int .i64 (zs.getD i 0)) := by
      intro zs hz
      rw [ho]
      simp [hz]
    have hnm : f.name ≠ "_" := by simpa using hn
    have p1 := run_part_plain (P := Try.prog) u hp (g xs h1)
    have p2 := run_part_plain (P := Try.prog) u hp (g ys h2)
    rw [← ht] at p1 p2
    have p3 := qeq_int k (xs.getD i 0) (ys.getD i 0) u
    rw [← ht] at p3
    simp only [Op.eqFields, hnm, ne_eq, not_false_eq_true, if_true, Sem.run_bind, p1, p2, p3, Result.andThen_ok, List.all_cons]
    cases hb : (xs.getD i 0 == ys.getD i 0) with
    | false => simp
    | true => simpa using ih
end Go.Proofs.Ytplifdmfoeejaaa

namespace Go.Proofs.Ytplifdmfoeejaaa
open Go Go.RowKit
set_option linter.unusedSimpArgs false

theorem ev_eq (x y : Ev) (u : World) : (Op.equalIn 10000 116 (.agg (evV x)) (.agg (evV y))).run Try.prog u = .ok (decide (x = y)) u := by
  rw [show (10000 : Nat) = 9999 + 1 from rfl, run_equalIn_struct u 9999 116 _ _ (by kernel_rfl) (by kernel_rfl)]
  have h := eqFields_ints 9998 [x.kd, x.wk, x.tk, x.ot, x.lv] [y.kd, y.wk, y.tk, y.ot, y.lv] u (Try.prog.fieldsOf 116).toList [0, 1, 2, 3, 4] (by kernel_rfl) (by simp)
  simp only [List.map_cons, List.map_nil] at h
  refine h.trans (congrArg (fun b => Result.ok b u) ?_)
  clear h
  rw [Bool.eq_iff_iff, decide_eq_true_iff]
  obtain ⟨x0, x1, x2, x3, x4⟩ := x
  obtain ⟨y0, y1, y2, y3, y4⟩ := y
  simp
theorem ev_ne (x y : Ev) (u : World) : (binOp .neq 116 (.agg (evV x)) (.agg (evV y))).run Try.prog u = .ok (.bool (!decide (x = y))) u := by
  simp only [binOp, Op.equal, Op.maxDepth, Sem.run_bind, Sem.run_pure]
  rw [ev_eq x y u]
  rfl

/-- What Same gives. -/
def SameR (xs ys : List Ev) (w : World) (e : Ending) (w' : World) : Prop := e = .returned (.bool (decide (xs = ys))) ∧ ∃ d, w' = w.drewN d

theorem etake_more {zs ys : List Ev} {j : Nat} {u : Ev} (h1 : zs[j]? = some u) (h2 : ys[j]? = some u) (ht : zs.take j = ys.take j) : zs.take (j + 1) = ys.take (j + 1) := by
  rw [List.take_add_one, List.take_add_one, ht, h1, h2]

set_option maxRecDepth 100000 in
set_option maxHeartbeats 2000000 in
theorem evsame_any {w : World} {a b : Option Addr} {xs ys : List Ev} (h : InE w a xs) (h' : InE w b ys) (c c' : Nat) :
    Calls Try.prog 43 #[.slice a xs.length c, .slice b ys.length c'] w (SameR xs ys w) := by
  have hmax := h.1
  unfold maxLen at hmax
  obtain ⟨n, hn⟩ : ∃ n, xs.length = n := ⟨_, rfl⟩
  obtain ⟨m, hm⟩ : ∃ m, ys.length = m := ⟨_, rfl⟩
  rw [hn, hm]
  rw [hn] at hmax
  have HL := Lib.hid (And.intro hn hm)
  clear hn hm
  by_cases hnm : n = m
  · subst hnm
    have H := Lib.hid h
    have H' := Lib.hid h'
    clear h h'
    go_enter Try.func43, Try.ntmps43
    go_wp2_with fail
    go_loopw [5] (fun i wr => ∃ (j d : Nat), j ≤ n ∧ i = .int .i64 j ∧ wr = w.drewN d ∧ xs.take j = ys.take j) (fun i _ => n - (intOf i).toNat)
    case atStart => exact ⟨0, 0, by omega, rfl, rfl, by simp⟩
    case round =>
      obtain ⟨j, d, hj, rfl, rfl, ht⟩ := hrel
      have HT := Lib.hid ht
      clear ht
      by_cases hlt : j < n
      · obtain ⟨u, hu⟩ : ∃ u, xs[j]? = some u := ⟨_, List.getElem?_eq_getElem (by rw [HL.out.1]; exact hlt)⟩
        obtain ⟨v, hv⟩ : ∃ v, ys[j]? = some v := ⟨_, List.getElem?_eq_getElem (by rw [HL.out.2]; exact hlt)⟩
        obtain ⟨x, rfl, x0, x1, x2, x3, x4⟩ := H.out.at_ hu
        obtain ⟨y, rfl, y0, y1, y2, y3, y4⟩ := H'.out.at_ hv
        have HU := Lib.hid hu
        have HV := Lib.hid hv
        have hq := fun (W : World) => ev_ne u v W
        clear hu hv
        by_cases he : u = v
        · rw [decide_eq_true he] at hq
          have HE := Lib.hid he
          clear he
          go_wp2_with fail
          go_quiet (fail)
          go_wp2_with fail
          go_roundw
          case rel => exact ⟨j + 1, _, by omega, by go_num, rfl, etake_more HU.out (by rw [HE.out]; exact HV.out) HT.out⟩
          case measure => simp [intOf]; omega
        · rw [decide_eq_false he] at hq
          have HE := Lib.hid he
          clear he
          go_wp2_with fail
          go_quiet (fail)
          go_wp2
          go_ret
          refine ⟨congrArg (fun b => Ending.returned (Value.bool b)) (decide_eq_false (fun e => ?_)).symm, _, World.drewN_drewN _ _ _⟩
          have h1 := HU.out
          rw [e, HV.out] at h1
          exact HE.out (Option.some.inj h1).symm
      · obtain rfl : j = n := by omega
        have ht := HT.out
        rw [List.take_of_length_le (by rw [HL.out.1]; exact Nat.le_refl _), List.take_of_length_le (by rw [HL.out.2]; exact Nat.le_refl _)] at ht
        have HT2 := Lib.hid ht
        clear ht
        go_wp2
        go_ret
        exact ⟨congrArg (fun b => Ending.returned (Value.bool b)) (decide_eq_true HT2.out).symm, _, rfl⟩
  · have hd : ((n : Int) == (m : Int)) = false := by simp; omega
    have hne : xs ≠ ys := by
      intro e
      apply hnm
      rw [← HL.out.1, ← HL.out.2, e]
    have HNE := Lib.hid hne
    clear h h' hne
    go_enter Try.func43, Try.ntmps43
    go_wp2
    go_ret
    exact ⟨congrArg (fun b => Ending.returned (Value.bool b)) (decide_eq_false HNE.out).symm, 0, rfl⟩
end Go.Proofs.Ytplifdmfoeejaaa
