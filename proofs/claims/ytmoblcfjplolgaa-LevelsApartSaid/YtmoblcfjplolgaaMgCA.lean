/-
  Package memory: Count.
  The walk of the statement LevelsApart: it returns true. (Written by wip/gen_l13a.py.)
  Bytes that came in, opened.
-/
import Derived.Test.YtmoblcfjplolgaaMgAA
import Derived.WalkKit
import Derived.Test.YtmoblcfjplolgaaMgBT
import Derived.Test.YtmoblcfjplolgaaMgBR
import Derived.Test.YtmoblcfjplolgaaMgBG
namespace Go.Proofs.Ytmoblcfjplolgaa
open Go Go.RowKit

theorem count_any {w : World} {p g cap : Nat} {s : St} (h : Mem w p g cap s) :
    Calls Try.prog 19 #[.pointer (some ⟨p, 0, none⟩)] w fun e w' => e = .returned (.int .i64 s.c) ∧ w = w' := by
  have h0 : w.cell? ⟨p, 1, none⟩ = some (.int .i64 s.c) := h.blk.at_ 1
  go_enter Try.func19, Try.ntmps19
  go_wp2
  go_ret
  exact ⟨rfl, rfl⟩
end Go.Proofs.Ytmoblcfjplolgaa

namespace Go.Proofs.Ytmoblcfjplolgaa
open Go Go.RowKit Go.Shelf
set_option linter.unusedSimpArgs false
set_option linter.unusedVariables false

theorem go_out (s : St) (k i : Int) (F : Int → Int) (h : ¬ s.has i) : s.go k i F = s := if_neg h
theorem old_out (s : St) (i : Int) (h : ¬ s.has i) : s.old i = 0 := if_neg h
theorem has_neg (s : St) : ¬ s.has (-1) := fun h => by have := h.1; omega
/-- A push for what does not exist. -/
theorem apart_push {c : Cfg} {a l : Int} (h : ¬ qIn c a l) (v : Int) (s : St) : RunM (lvS c) s (fraLP a l v, none) s ⟨true, 3, 0⟩ 2 := by
  have hq : rQueue c a l = (-1, -1, -1, 0) := by unfold rQueue; rw [if_neg h]
  have hch : lvChild c (fraLP a l v) = fra1 0 (-1) (-1) (-1) 0 v := by
    unfold lvChild
    rw [if_pos rfl, if_pos rfl]
    show fra1 0 (rQueue c a l).1 (rQueue c a l).2.1 (rQueue c a l).2.2.1 (rQueue c a l).2.2.2 v = _
    rw [hq]
  have e1 : pushS s (fra1 0 (-1) (-1) (-1) 0 v) = (s, { fra1 0 (-1) (-1) (-1) 0 v with fu := 0, ln := 2 }, .none) := by
    rw [pushS_1 rfl]
    show (s.go 1 (-1) id, ({ fra1 0 (-1) (-1) (-1) 0 v with fu := s.old (-1), ln := 2 } : Fra), Res.none) = _
    rw [go_out s _ _ _ (has_neg s), old_out s _ (has_neg s)]
  have e2 : pushS s { fra1 0 (-1) (-1) (-1) 0 v with fu := 0, ln := 2 } = (s, { fra1 0 (-1) (-1) (-1) 0 v with fu := 0, fv := 0, ln := 2 }, ⟨true, 3, 0⟩) := by
    rw [pushS_2f rfl (by
      show (0 : Int) ≤ sizeI 0 (s.old (-1))
      rw [old_out s _ (has_neg s)]
      decide +kernel)]
    show (s.go 1 (-1) id, ({ fra1 0 (-1) (-1) (-1) 0 v with fu := 0, ln := 2, fv := s.old (-1) } : Fra), _) = _
    rw [go_out s _ _ _ (has_neg s), old_out s _ (has_neg s)]
  have hr : runS pushS 20 s (fra1 0 (-1) (-1) (-1) 0 v) = some (s, ⟨true, 3, 0⟩, 2) := runS_cons e1 (runS_last e2 rfl)
  have hk := (RunM.of_runS hr).k lvK_push (fun s f => (push_keeps.q s f).2.2) rfl
  exact RunM.end_ (c := c) (f := fraLP a l v) (by rintro ⟨h1, _⟩; cases h1) hk none hch rfl
/-- A pop for a worker that does not exist. -/
theorem apart_pop {c : Cfg} {a : Int} (h : a < 0 ∨ c.wo ≤ a) (s : St) : RunM (lvS c) s (fraLQ a, none) s ⟨true, 2, 0⟩ 1 := by
  have hb : rBitmap c a = -1 := by unfold rBitmap ixs; rw [if_pos h]
  have e := lvS_top0 (c := c) (s := s) (f := fraLQ a) (g := none) rfl rfl (by show s.old (rBitmap c a) = 0; rw [hb, old_out s _ (has_neg s)])
  have hs : s.go 1 (rBitmap c a) id = s := by rw [hb, go_out s _ _ _ (has_neg s)]
  have h2 := RunM.last (stp := lvS c) (s := s) (x := (fraLQ a, none)) (by rw [e])
  rw [e] at h2
  change RunM (lvS c) s (fraLQ a, none) (s.go 1 (rBitmap c a) id) ⟨true, 2, 0⟩ 1 at h2
  rw [hs] at h2
  exact h2

set_option maxRecDepth 100000 in
set_option maxHeartbeats 16000000 in
theorem apart_law (a : Option Addr) (L c' : Nat) (zs : List Int) (i l v : Int) (w : World) (h : InB w w.heap.size a L zs) (hi : -9223372036854775808 ≤ i ∧ i ≤ 9223372036854775807) (hll : -9223372036854775808 ≤ l ∧ l ≤ 9223372036854775807) :
    Calls Try.prog 5 #[.slice a L c', .int .i64 i, .int .i64 l, .int .i64 v] w fun e w' => e = .returned (.bool true) ∧ Below w.heap.size w w' := by
  have H := Lib.hid h
  clear h
  by_cases hL : (L : Int) ≤ 400
  case neg =>
    have HD := Lib.hid (show decide ((L : Int) ≤ 400) = false from decide_eq_false hL)
    go_enter Try.func5, Try.ntmps5
    go_wp2_with fail
    (with_reducible refine (short_nil _ _ _).mono ?_)
    rintro e w0 ⟨rfl, rfl⟩
    rw [HD.out]
    go_wp2
    go_ret
    exact ⟨rfl, Below.refl _ _⟩
  have HD := Lib.hid (show decide ((L : Int) ≤ 400) = true from decide_eq_true hL)
  go_enter Try.func5, Try.ntmps5
  go_wp2_with fail
  (with_reducible refine (short_nil _ _ _).mono ?_)
  rintro e w0 ⟨rfl, rfl⟩
  rw [HD.out]
  go_wp2_with fail
  (with_reducible refine (config_any H.out c').mono ?_)
  rintro e w1 ⟨u, rfl, hcfg, hb⟩
  obtain ⟨c, hcd⟩ : ∃ c, decC (strm zs) = c := ⟨_, rfl⟩
  rw [hcd] at hcfg
  have hck := chk_dec (strm zs)
  rw [hcd] at hck
  have HCK := Lib.hid hck
  obtain ⟨pa, pn, pc, sa, sn, sc, rfl, hl⟩ := hcfg.isCfg
  have H1 := Lib.hid (hl.alloc (.cells (cc c pa pn pc sa sn sc) 30))
  have X1 := Lib.hid (Blk.made w1 30 (cc c pa pn pc sa sn sc))
  have B1 := Lib.hid (hb.alloc hb.size (.cells (cc c pa pn pc sa sn sc) 30))
  clear hl hb hcd hck hcfg HD
  go_wp2_with fail
  generalize w1.alloc (.cells (cc c pa pn pc sa sn sc) 30) = W at *
  generalize w1.heap.size = q at *
  (with_reducible refine (enew_any H1.out _ _ HCK.out).mono ?_)
  rintro e w2 ⟨p, m, k, g, hd, rv, rfl, hE⟩
  have E2 := Lib.hid (show EW w p m k g _ c hd rv (.slice none 0 0) (St.new (rCells c).toNat) w2 from ⟨hE.e, hE.l, hE.i, hE.u, B1.out.trans (hE.b.mono B1.out.size), by have := hE.lo; have := B1.out.size; omega⟩)
  have X2 := Lib.hid (X1.out.below hE.b)
  clear hE X1 B1 H1
  go_wp2_with fail
  (with_reducible refine (awake13_any _).mono ?_)
  rintro e w3 ⟨rfl, hb⟩
  have E3 := Lib.hid (E2.out.below hb)
  have X3 := Lib.hid (X2.out.below hb)
  have e20 := E3.out.e.at20
  clear hb E2 X2
  go_upto_region 7 with fail
  clear e20
  have x0 : w3.cell? ⟨q, 0, none⟩ = some (.int .i64 c.wo) := X3.out.at_ 0
  have x1 : w3.cell? ⟨q, 1, none⟩ = some (.int .i64 c.le) := X3.out.at_ 1
  have h5 := E3.out.i.wo
  have h6 := E3.out.i.le
  have hcase : i < 0 ∨ (0 ≤ i ∧ c.wo ≤ i) ∨ (0 ≤ i ∧ i < c.wo ∧ l < 0) ∨ (0 ≤ i ∧ i < c.wo ∧ 0 ≤ l ∧ c.le ≤ l) ∨ (0 ≤ i ∧ i < c.wo ∧ 0 ≤ l ∧ l < c.le) := by omega
  obtain ⟨WO, hwo⟩ : ∃ z, c.wo = z := ⟨_, rfl⟩
  obtain ⟨LE, hle⟩ : ∃ z, c.le = z := ⟨_, rfl⟩
  rw [hwo] at x0 h5 hcase
  rw [hle] at x1 h6 hcase
  have HWL := Lib.hid (And.intro hwo hle)
  clear hwo hle
  rcases hcase with i0 | ⟨i0, i1⟩ | ⟨i0, i1, j0⟩ | ⟨i0, i1, j0, j1⟩ | ⟨i0, i1, j0, j1⟩
  · have hno : ¬ qIn c i l := fun h => by obtain ⟨z0, z1, z2, z3⟩ := h; rw [HWL.out.1] at z1; rw [HWL.out.2] at z3; omega
    have HNO := Lib.hid hno
    clear hno
    go_wp2_with fail
    (with_reducible refine (lvPush_any i l v _).mono ?_)
    rintro e w4 ⟨b4, rfl, hv, hbl, hb⟩
    have E4 := Lib.hid (E3.out.below hb)
    have X4 := Lib.hid (X3.out.below hb)
    have hA := alone_lvpusher (most := 30) E4.out.e E4.out.l E4.out.i hv E4.out.u (xu_new ⟨uw_zero, uw_zero, uw_zero, uw_zero⟩) (apart_push HNO.out v _) (by decide) (by decide)
    rw [show ((30 : Nat) : Int) = 30 from rfl] at hA
    have HA := Lib.hid hA
    have HBL := Lib.hid (Nat.le_trans E3.out.b.size hbl)
    have hap := Lib.hid (show b4 ≠ q from fun e => by have := X3.out.lt; omega)
    have hxm := X4.out.apart E4.out.e.mem.blk (by decide)
    have hxg : q ≠ g := by obtain ⟨cur, hg, _⟩ := E4.out.e.mem.row.blk; exact X4.out.apart hg (by decide)
    have HX := Lib.hid (And.intro hxm hxg)
    clear hA hv hbl hb E3 X3 x0 x1 hxm hxg
    go_wp2_with fail
    (with_reducible refine HA.out.mono ?_)
    rintro e w5 ⟨rfl, hp, hf⟩
    have E5 := Lib.hid (E4.out.done HBL.out hp hf E4.out.u)
    have X5 := Lib.hid (X4.out.of_same (hf.block q X4.out.lt (by have h1 := hap.out; simp only [List.mem_cons, List.not_mem_nil, or_false, not_or]; exact ⟨HX.out.1, HX.out.2, fun e => h1 e.symm⟩)))
    have e20 := E5.out.e.at20
    have x0 : w5.cell? ⟨q, 0, none⟩ = some (.int .i64 WO) := by rw [← HWL.out.1]; exact X5.out.at_ 0
    have hcn := count_any E5.out.e.mem
    rw [show (St.new (rCells c).toNat).c = 0 from rfl] at hcn
    have HCN := Lib.hid hcn
    clear hp hf HA HBL E4 X4 hap HX hcn
    rw [show ((2 : Nat) : Int) = 2 from rfl]
    go_wp2_with fail
    (with_reducible refine HCN.out.mono ?_)
    rintro e w6 ⟨rfl, rfl⟩
    clear HCN
    go_wp2_with fail
    (with_reducible refine (lvPop_any i _).mono ?_)
    rintro e w7 ⟨b7, rfl, hv, hbl, hb⟩
    have E7 := Lib.hid (E5.out.below hb)
    have hA := alone_lvpopper (most := 30) E7.out.e E7.out.l E7.out.i hv E7.out.u (xu_new ⟨uw_zero, uw_zero, uw_zero, uw_zero⟩) (apart_pop (by rw [HWL.out.1]; omega) _) (by decide) (by decide)
    rw [show ((30 : Nat) : Int) = 30 from rfl] at hA
    have HA := Lib.hid hA
    have HBL := Lib.hid (Nat.le_trans E5.out.b.size hbl)
    clear hA hv hbl hb E5 X5 e20 x0
    go_wp2_with fail
    (with_reducible refine HA.out.mono ?_)
    rintro e w8 ⟨rfl, hp, hf⟩
    have E8 := Lib.hid (E7.out.done HBL.out hp hf E7.out.u)
    have e20 := E8.out.e.at20
    have hcn := count_any E8.out.e.mem
    rw [show (St.new (rCells c).toNat).c = 0 from rfl] at hcn
    have HCN := Lib.hid hcn
    clear hp hf HA HBL E7 hcn
    rw [show ((1 : Nat) : Int) = 1 from rfl]
    go_wp2_with fail
    (with_reducible refine HCN.out.mono ?_)
    rintro e w9 ⟨rfl, rfl⟩
    clear HCN
    go_wp2
    go_ret
    exact ⟨rfl, E8.out.b⟩
  · have hno : ¬ qIn c i l := fun h => by obtain ⟨z0, z1, z2, z3⟩ := h; rw [HWL.out.1] at z1; rw [HWL.out.2] at z3; omega
    have HNO := Lib.hid hno
    clear hno
    go_wp2_with fail
    (with_reducible refine (lvPush_any i l v _).mono ?_)
    rintro e w4 ⟨b4, rfl, hv, hbl, hb⟩
    have E4 := Lib.hid (E3.out.below hb)
    have X4 := Lib.hid (X3.out.below hb)
    have hA := alone_lvpusher (most := 30) E4.out.e E4.out.l E4.out.i hv E4.out.u (xu_new ⟨uw_zero, uw_zero, uw_zero, uw_zero⟩) (apart_push HNO.out v _) (by decide) (by decide)
    rw [show ((30 : Nat) : Int) = 30 from rfl] at hA
    have HA := Lib.hid hA
    have HBL := Lib.hid (Nat.le_trans E3.out.b.size hbl)
    have hap := Lib.hid (show b4 ≠ q from fun e => by have := X3.out.lt; omega)
    have hxm := X4.out.apart E4.out.e.mem.blk (by decide)
    have hxg : q ≠ g := by obtain ⟨cur, hg, _⟩ := E4.out.e.mem.row.blk; exact X4.out.apart hg (by decide)
    have HX := Lib.hid (And.intro hxm hxg)
    clear hA hv hbl hb E3 X3 x0 x1 hxm hxg
    go_wp2_with fail
    (with_reducible refine HA.out.mono ?_)
    rintro e w5 ⟨rfl, hp, hf⟩
    have E5 := Lib.hid (E4.out.done HBL.out hp hf E4.out.u)
    have X5 := Lib.hid (X4.out.of_same (hf.block q X4.out.lt (by have h1 := hap.out; simp only [List.mem_cons, List.not_mem_nil, or_false, not_or]; exact ⟨HX.out.1, HX.out.2, fun e => h1 e.symm⟩)))
    have e20 := E5.out.e.at20
    have x0 : w5.cell? ⟨q, 0, none⟩ = some (.int .i64 WO) := by rw [← HWL.out.1]; exact X5.out.at_ 0
    have hcn := count_any E5.out.e.mem
    rw [show (St.new (rCells c).toNat).c = 0 from rfl] at hcn
    have HCN := Lib.hid hcn
    clear hp hf HA HBL E4 X4 hap HX hcn
    rw [show ((2 : Nat) : Int) = 2 from rfl]
    go_wp2_with fail
    (with_reducible refine HCN.out.mono ?_)
    rintro e w6 ⟨rfl, rfl⟩
    clear HCN
    go_wp2_with fail
    (with_reducible refine (lvPop_any i _).mono ?_)
    rintro e w7 ⟨b7, rfl, hv, hbl, hb⟩
    have E7 := Lib.hid (E5.out.below hb)
    have hA := alone_lvpopper (most := 30) E7.out.e E7.out.l E7.out.i hv E7.out.u (xu_new ⟨uw_zero, uw_zero, uw_zero, uw_zero⟩) (apart_pop (by rw [HWL.out.1]; omega) _) (by decide) (by decide)
    rw [show ((30 : Nat) : Int) = 30 from rfl] at hA
    have HA := Lib.hid hA
    have HBL := Lib.hid (Nat.le_trans E5.out.b.size hbl)
    clear hA hv hbl hb E5 X5 e20 x0
    go_wp2_with fail
    (with_reducible refine HA.out.mono ?_)
    rintro e w8 ⟨rfl, hp, hf⟩
    have E8 := Lib.hid (E7.out.done HBL.out hp hf E7.out.u)
    have e20 := E8.out.e.at20
    have hcn := count_any E8.out.e.mem
    rw [show (St.new (rCells c).toNat).c = 0 from rfl] at hcn
    have HCN := Lib.hid hcn
    clear hp hf HA HBL E7 hcn
    rw [show ((1 : Nat) : Int) = 1 from rfl]
    go_wp2_with fail
    (with_reducible refine HCN.out.mono ?_)
    rintro e w9 ⟨rfl, rfl⟩
    clear HCN
    go_wp2
    go_ret
    exact ⟨rfl, E8.out.b⟩
  · have hno : ¬ qIn c i l := fun h => by obtain ⟨z0, z1, z2, z3⟩ := h; rw [HWL.out.1] at z1; rw [HWL.out.2] at z3; omega
    have HNO := Lib.hid hno
    clear hno
    go_wp2_with fail
    (with_reducible refine (lvPush_any i l v _).mono ?_)
    rintro e w4 ⟨b4, rfl, hv, hbl, hb⟩
    have E4 := Lib.hid (E3.out.below hb)
    have X4 := Lib.hid (X3.out.below hb)
    have hA := alone_lvpusher (most := 30) E4.out.e E4.out.l E4.out.i hv E4.out.u (xu_new ⟨uw_zero, uw_zero, uw_zero, uw_zero⟩) (apart_push HNO.out v _) (by decide) (by decide)
    rw [show ((30 : Nat) : Int) = 30 from rfl] at hA
    have HA := Lib.hid hA
    have HBL := Lib.hid (Nat.le_trans E3.out.b.size hbl)
    have hap := Lib.hid (show b4 ≠ q from fun e => by have := X3.out.lt; omega)
    have hxm := X4.out.apart E4.out.e.mem.blk (by decide)
    have hxg : q ≠ g := by obtain ⟨cur, hg, _⟩ := E4.out.e.mem.row.blk; exact X4.out.apart hg (by decide)
    have HX := Lib.hid (And.intro hxm hxg)
    clear hA hv hbl hb E3 X3 x0 x1 hxm hxg
    go_wp2_with fail
    (with_reducible refine HA.out.mono ?_)
    rintro e w5 ⟨rfl, hp, hf⟩
    have E5 := Lib.hid (E4.out.done HBL.out hp hf E4.out.u)
    have X5 := Lib.hid (X4.out.of_same (hf.block q X4.out.lt (by have h1 := hap.out; simp only [List.mem_cons, List.not_mem_nil, or_false, not_or]; exact ⟨HX.out.1, HX.out.2, fun e => h1 e.symm⟩)))
    have e20 := E5.out.e.at20
    have x0 : w5.cell? ⟨q, 0, none⟩ = some (.int .i64 WO) := by rw [← HWL.out.1]; exact X5.out.at_ 0
    have hcn := count_any E5.out.e.mem
    rw [show (St.new (rCells c).toNat).c = 0 from rfl] at hcn
    have HCN := Lib.hid hcn
    clear hp hf HA HBL E4 X4 hap HX hcn
    rw [show ((2 : Nat) : Int) = 2 from rfl]
    go_wp2_with fail
    (with_reducible refine HCN.out.mono ?_)
    rintro e w6 ⟨rfl, rfl⟩
    clear HCN
    go_wp2
    go_ret
    exact ⟨rfl, E5.out.b⟩
  · have hno : ¬ qIn c i l := fun h => by obtain ⟨z0, z1, z2, z3⟩ := h; rw [HWL.out.1] at z1; rw [HWL.out.2] at z3; omega
    have HNO := Lib.hid hno
    clear hno
    go_wp2_with fail
    (with_reducible refine (lvPush_any i l v _).mono ?_)
    rintro e w4 ⟨b4, rfl, hv, hbl, hb⟩
    have E4 := Lib.hid (E3.out.below hb)
    have X4 := Lib.hid (X3.out.below hb)
    have hA := alone_lvpusher (most := 30) E4.out.e E4.out.l E4.out.i hv E4.out.u (xu_new ⟨uw_zero, uw_zero, uw_zero, uw_zero⟩) (apart_push HNO.out v _) (by decide) (by decide)
    rw [show ((30 : Nat) : Int) = 30 from rfl] at hA
    have HA := Lib.hid hA
    have HBL := Lib.hid (Nat.le_trans E3.out.b.size hbl)
    have hap := Lib.hid (show b4 ≠ q from fun e => by have := X3.out.lt; omega)
    have hxm := X4.out.apart E4.out.e.mem.blk (by decide)
    have hxg : q ≠ g := by obtain ⟨cur, hg, _⟩ := E4.out.e.mem.row.blk; exact X4.out.apart hg (by decide)
    have HX := Lib.hid (And.intro hxm hxg)
    clear hA hv hbl hb E3 X3 x0 x1 hxm hxg
    go_wp2_with fail
    (with_reducible refine HA.out.mono ?_)
    rintro e w5 ⟨rfl, hp, hf⟩
    have E5 := Lib.hid (E4.out.done HBL.out hp hf E4.out.u)
    have X5 := Lib.hid (X4.out.of_same (hf.block q X4.out.lt (by have h1 := hap.out; simp only [List.mem_cons, List.not_mem_nil, or_false, not_or]; exact ⟨HX.out.1, HX.out.2, fun e => h1 e.symm⟩)))
    have e20 := E5.out.e.at20
    have x0 : w5.cell? ⟨q, 0, none⟩ = some (.int .i64 WO) := by rw [← HWL.out.1]; exact X5.out.at_ 0
    have hcn := count_any E5.out.e.mem
    rw [show (St.new (rCells c).toNat).c = 0 from rfl] at hcn
    have HCN := Lib.hid hcn
    clear hp hf HA HBL E4 X4 hap HX hcn
    rw [show ((2 : Nat) : Int) = 2 from rfl]
    go_wp2_with fail
    (with_reducible refine HCN.out.mono ?_)
    rintro e w6 ⟨rfl, rfl⟩
    clear HCN
    go_wp2
    go_ret
    exact ⟨rfl, E5.out.b⟩
  · have hnw : wrap64 (l + LE) = l + LE := by unfold wrap64; omega
    have hno : ¬ qIn c i (l + LE) := fun h => by obtain ⟨z0, z1, z2, z3⟩ := h; rw [HWL.out.1] at z1; rw [HWL.out.2] at z3; omega
    have HNO := Lib.hid hno
    clear hno
    go_wp2_with fail
    (with_reducible refine (lvPush_any i (l + LE) v _).mono ?_)
    rintro e w4 ⟨b4, rfl, hv, hbl, hb⟩
    have E4 := Lib.hid (E3.out.below hb)
    have X4 := Lib.hid (X3.out.below hb)
    have hA := alone_lvpusher (most := 30) E4.out.e E4.out.l E4.out.i hv E4.out.u (xu_new ⟨uw_zero, uw_zero, uw_zero, uw_zero⟩) (apart_push HNO.out v _) (by decide) (by decide)
    rw [show ((30 : Nat) : Int) = 30 from rfl] at hA
    have HA := Lib.hid hA
    have HBL := Lib.hid (Nat.le_trans E3.out.b.size hbl)
    have hap := Lib.hid (show b4 ≠ q from fun e => by have := X3.out.lt; omega)
    have hxm := X4.out.apart E4.out.e.mem.blk (by decide)
    have hxg : q ≠ g := by obtain ⟨cur, hg, _⟩ := E4.out.e.mem.row.blk; exact X4.out.apart hg (by decide)
    have HX := Lib.hid (And.intro hxm hxg)
    clear hA hv hbl hb E3 X3 x0 x1 hxm hxg
    go_wp2_with fail
    (with_reducible refine HA.out.mono ?_)
    rintro e w5 ⟨rfl, hp, hf⟩
    have E5 := Lib.hid (E4.out.done HBL.out hp hf E4.out.u)
    have X5 := Lib.hid (X4.out.of_same (hf.block q X4.out.lt (by have h1 := hap.out; simp only [List.mem_cons, List.not_mem_nil, or_false, not_or]; exact ⟨HX.out.1, HX.out.2, fun e => h1 e.symm⟩)))
    have e20 := E5.out.e.at20
    have x0 : w5.cell? ⟨q, 0, none⟩ = some (.int .i64 WO) := by rw [← HWL.out.1]; exact X5.out.at_ 0
    have hcn := count_any E5.out.e.mem
    rw [show (St.new (rCells c).toNat).c = 0 from rfl] at hcn
    have HCN := Lib.hid hcn
    clear hp hf HA HBL E4 X4 hap HX hcn
    rw [show ((2 : Nat) : Int) = 2 from rfl]
    go_wp2_with fail
    (with_reducible refine HCN.out.mono ?_)
    rintro e w6 ⟨rfl, rfl⟩
    clear HCN
    go_wp2
    go_ret
    exact ⟨rfl, E5.out.b⟩
end Go.Proofs.Ytmoblcfjplolgaa

namespace Go.Proofs.Ytmoblcfjplolgaa
open Go Go.ChangeShapes Go.WideShapes Go.ChangeAt Go.RowKit

set_option maxRecDepth 100000 in
theorem open_bytesB {H : Type} {enc : TypeId × Value → H} {w : World} {base b0 : Nat} {spare : Nat → Bool} {held : Bool} {r : Reach} {v : Value} {d : DataW H} {p : List MemPlace}
    (hv : Value.okWide Try.prog w r b0 58 v) (h : DataW.Trod enc Try.prog w base spare held 58 v d p) :
    ∃ (a : Option Addr) (n c : Nat) (zs : List Int), v = .slice a n c ∧ InB w w.heap.size a n zs ∧ n ≤ c := by
  obtain ⟨a, n, c, rfl⟩ := okWide_slice Try.underlying58 hv
  obtain ⟨fuel, hf⟩ := h
  rcases open_ints Try.underlying58 Try.underlying5 (by kernel_rfl) hf with ⟨hcs, _⟩ | ⟨x, l, c', zs, hcs, _, hl, hm, hz, _, hcell, hwf⟩
  · simp [Value.cells] at hcs
    obtain ⟨rfl, rfl, rfl⟩ := hcs
    exact ⟨_, _, _, [], rfl, inB_nil _ _ _, Nat.le_refl _⟩
  · simp [Value.cells] at hcs
    obtain ⟨rfl, rfl, rfl⟩ := hcs
    have hnz : n ≤ zs.length := by rw [hz]; split <;> omega
    refine ⟨_, _, _, zs.take n, rfl, ⟨by simp; omega, by omega, fun i hi => ⟨x, rfl, ?_, ?_, ?_⟩⟩, by omega⟩
    · have := World.block_lt_of_cell? w _ (hcell i (by omega))
      rwa [show (x.add i).block = x.block by unfold Addr.add; split <;> rfl] at this
    · rw [hcell i (by omega), List.getD_eq_getElem?_getD, List.getD_eq_getElem?_getD, List.getElem?_take, if_pos hi]
    · have hi' : i < zs.length := by omega
      have hw := hwf (zs[i]) (List.getElem_mem hi')
      have e : (zs.take n).getD i 0 = zs[i] := by
        rw [List.getD_eq_getElem?_getD, List.getElem?_take, if_pos hi, List.getElem?_eq_getElem hi']
        rfl
      rw [e]
      simp only [Lit.wf, Bool.and_eq_true, decide_eq_true_eq] at hw
      have h0 : IntKind.u8.min = 0 := rfl
      have h1 : IntKind.u8.max = 255 := rfl
      rw [h0, h1] at hw
      exact hw
end Go.Proofs.Ytmoblcfjplolgaa
