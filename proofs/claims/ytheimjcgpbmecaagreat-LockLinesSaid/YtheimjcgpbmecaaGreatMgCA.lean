/-
  workstealmatch.Match of a machine of package lock (releaser) and of the reference's. (Written by wip/gen_lk.py.)
  Contract of the keep's Short with one list.
  The walk of the statement LockLines: it returns true. (Written by wip/gen_l15l.py.)
  Bytes that came in, opened.
-/
import Derived.Test.YtheimjcgpbmecaaGreatMgBY
import Derived.Test.YtheimjcgpbmecaaGreatMgAW
import Derived.Test.YtheimjcgpbmecaaGreatMgAS
import Derived.Test.YtheimjcgpbmecaaGreatMgBF
import Derived.Test.YtheimjcgpbmecaaGreatMgBK
import Derived.Test.YtheimjcgpbmecaaGreatMgAL
import Derived.LoopTactic
import Derived.OwnWalk
import Derived.Deep.Cut
import Derived.Deep.CutRange
import Derived.Lib.Hide
import Derived.Test.YtheimjcgpbmecaaGreatEnvs
import Derived.Test.YtheimjcgpbmecaaGreatMgBX
import Derived.Test.YtheimjcgpbmecaaGreatMgBZ
namespace Go.Proofs.YtheimjcgpbmecaaGreat
open Go Go.RowKit Go.Shelf
set_option linter.unusedSimpArgs false
set_option linter.unusedVariables false

theorem leafS_releaser (s : St) (f : Fra) (h : f.kd = 9) : leafS s f = relS s f := by simp [leafS, h, relS]
/-- What the loop keeps. -/
def MatR_releaser (W0 : World) (B p m k g cap : Nat) (hd : List Value) (rv ev : Value) (q y gy cy : Nat) (pst : List Value) (d : Int) (es : List Ev) (rs : List Rec) (C T : Int) (i xv : Value) (wr : World) : Prop :=
  ∃ (n x : Nat) (s : St) (f : Fra) (a : EnvA), n ≤ 30 ∧ i = .int .i64 n ∧ xv = .iface 147 (.pointer (some ⟨x, 0, none⟩)) ∧ MS W0 LkOk 9 150 B p m k g cap hd rv ev q y gy cy pst d es rs s f a (C + 2 * n) (T + n) x (lncells f 0 0 ++ ([] : List Value)).toArray wr
set_option maxRecDepth 100000 in
set_option maxHeartbeats 16000000 in
theorem match_releaser {W0 w : World} {B p m k g cap : Nat} {hd : List Value} {rv ev : Value} {q y gy cy : Nat} {pst : List Value} {d : Int} {es : List Ev} {rs : List Rec} {s : St} {f : Fra} {a : EnvA} {C T : Int} {x : Nat} {cf : Cfg}
    (hlay : LayHd hd cf) (h : MS W0 LkOk 9 150 B p m k g cap hd rv ev q y gy cy pst d es rs s f a C T x (lncells f 0 0 ++ ([] : List Value)).toArray w) (hC : C ≤ 200000) (hT : T ≤ 100000) (hrs : rs.length ≤ 1000000) {na : Option Addr} {nn nc : Nat} {zs : List Int} (hz : InInts W0 na nn zs) :
    Calls Tryz.prog 24 #[.pointer (some ⟨p, 0, none⟩), .pointer (some ⟨q, 0, none⟩), .iface 147 (.pointer (some ⟨x, 0, none⟩)), .pointer (some ⟨y, 0, none⟩), .slice na nn nc, .int .i64 30] w fun e w' => e = .returned (.bool true) ∧ Below W0.heap.size W0 w' := by
  have HZ := Lib.hid hz
  have HRS := Lib.hid hrs
  have HLY := Lib.hid hlay
  clear hlay
  have c20 : w.cell? ⟨p, 20, none⟩ = some (.pointer (some ⟨m, 0, none⟩)) := h.u.e.at20
  have c21 : w.cell? ⟨p, 21, none⟩ = some (.pointer (some ⟨k, 0, none⟩)) := h.u.e.at21
  have HST := Lib.hid (show MatR_releaser W0 B p m k g cap hd rv ev q y gy cy pst d es rs C T (.int .i64 0) (.iface 147 (.pointer (some ⟨x, 0, none⟩))) w from ⟨0, x, s, f, a, by omega, rfl, rfl, h.up (by omega) (by omega)⟩)
  clear h hz hrs
  go_enter Tryz.func24, Tryz.ntmps24
  go_wp2_with fail
  clear c20 c21
  go_loopw [13, 2] (fun i xv wr => MatR_releaser W0 B p m k g cap hd rv ev q y gy cy pst d es rs C T i xv wr) (fun i _ _ => 30 - (intOf i).toNat)
  case atStart => exact HST.out
  case round =>
    clear HST
    obtain ⟨n, x, s, f, a, hn, rfl, rfl, h⟩ := hrel
    have H := Lib.hid h
    clear h
    by_cases hlt : n < 30
    case neg =>
      obtain rfl : n = 30 := by omega
      go_wp2
      go_ret
      exact ⟨rfl, H.out.bb⟩
    have HO := Lib.hid (show LB wr x 150 [] f 0 0 from ⟨H.out.bx, odd_releaser.t1, odd_releaser.t2, odd_releaser.t3, odd_releaser.t4⟩)
    have km := meth_step_releaser x
    have ka := ahead_step_releaser x
    have kr := meth_result_releaser x
    have kb := ahead_result_releaser x
    have hlt2 : (n : Int) < 30 := by omega
    go_wp2_with fail
    (with_reducible refine (lresult_any HO.out).mono ?_)
    rintro e w1 ⟨rfl, nd, rfl⟩
    have H1 := Lib.hid (H.out.below (below_drewN wr nd))
    have O1 := Lib.hid (HO.out.drewN nd)
    clear H HO
    generalize wr.drewN nd = W1 at *
    have c20 : W1.cell? ⟨p, 20, none⟩ = some (.pointer (some ⟨m, 0, none⟩)) := H1.out.u.e.at20
    go_wp2_with fail
    (with_reducible refine (count_any H1.out.u.e.mem).mono ?_)
    rintro e w1 ⟨rfl, rfl⟩
    clear c20
    have HK := Lib.hid H1.out.fo
    have HS := Lib.hid (releaser_any2 H1.out.u.e HLY.out O1.out HK.out.1)
    go_wp2_with fail
    (with_reducible refine HS.out.mono ?_)
    rintro e W2 ⟨rfl, hp2, hb2, hf2⟩
    have hy2 := H1.out.my.frm hf2 (by
      simp only [List.mem_cons, List.not_mem_nil, or_false, not_or]
      obtain ⟨cur, hg, _⟩ := H1.out.u.e.mem.row.blk
      exact ⟨H1.out.my.blk.apart H1.out.u.e.mem.blk (by decide), H1.out.my.blk.apart hg (by decide), H1.out.my.blk.apart H1.out.bx (by decide)⟩) (by
      simp only [List.mem_cons, List.not_mem_nil, or_false, not_or]
      obtain ⟨cur, hg, _⟩ := H1.out.u.e.mem.row.blk
      exact ⟨H1.out.my.fr.blk.apart H1.out.u.e.mem.blk (by decide), H1.out.my.fr.blk.apart hg (by decide), H1.out.my.fr.blk.apart H1.out.bx (by decide)⟩)
    have hu2 := H1.out.u.prog H1.out.bx odd_releaser H1.out.hx hp2 hf2
    have hst := step_any hu2.f hy2 (by rw [H1.out.fk]; exact .inr (.inr (.inr (.inr (.inr (.inr (.inr rfl))))))) HK.out.2.1 HK.out.2.2.1 HK.out.2.2.2
    rw [leafS_releaser s f H1.out.fk] at hst
    have HST := Lib.hid hst
    have HW2 := Lib.hid (And.intro hp2 (And.intro hb2 (And.intro hf2 hy2)))
    clear hp2 hb2 hf2 hy2 hu2 hst
    go_wp2_with fail
    (with_reducible refine HST.out.mono ?_)
    rintro e W3 ⟨v3, rfl, he3, hfr3, hb3, hf3, hv3⟩
    obtain ⟨hp2, hb2, hf2, hy2⟩ := HW2.out
    obtain ⟨hu3, hx3, hbb3, hms3⟩ := MS.stepped rel_keeps H1.out odd_releaser ⟨by decide, by decide⟩ (by omega) hp2 hb2.blk hf2 he3 hfr3 hb3 hf3 hv3 hy2
    have hcc := rel_keeps.c s f ⟨H1.out.sc.1, by have := H1.out.sc.2; omega⟩
    have HU3 := Lib.hid hu3
    have HX3 := Lib.hid hx3
    have HB3 := Lib.hid hbb3
    have HM3 := Lib.hid hms3
    have HY3 := Lib.hid hb3
    have HCC := Lib.hid (And.intro hcc H1.out.sc)
    clear hp2 hb2 hf2 hy2 hu3 hx3 hbb3 hms3 hcc he3 hfr3 hb3 hf3 hv3 HST HW2 HS H1 O1
    have hz0 := rel_keeps.z s f
    have hq0 := rel_keeps.q s f
    have HZQ := Lib.hid (And.intro hz0 hq0)
    clear hz0 hq0
    generalize (relS s f).1 = S' at *
    generalize (relS s f).2.1 = F' at *
    generalize (relS s f).2.2 = R' at *
    have ew : wrap64 (s.c + 1) = s.c + 1 := by have := HCC.out; unfold wrap64; omega
    have hgt : decide (s.c + 1 < S'.c) = false := decide_eq_false (by have := HCC.out; omega)
    have HM := Lib.hid (msame_any HU3.out.twin HRS.out)
    cases hdn : R'.dn with
    | true =>
      rw [hdn] at HX3 HY3
      go_wp2_with fail
      (with_reducible refine HM.out.mono ?_)
      rintro e W4 ⟨rfl, hb4⟩
      have U4 := Lib.hid (HU3.out.below hb4)
      have X4 := Lib.hid (show LB W4 x 150 [] { F' with ln := 0 } R'.cd R'.vl from ⟨(by have := HX3.out.below hb4; simpa using this), odd_releaser.t1, odd_releaser.t2, odd_releaser.t3, odd_releaser.t4⟩)
      have Y4 := Lib.hid (show Blk W4 y 133 (mcells gy 0 cy true R'.cd R'.vl) from by have := HY3.out.below hb4; simpa using this)
      have B4 := Lib.hid (HB3.out.trans (hb4.mono HB3.out.size))
      have c20 : W4.cell? ⟨p, 20, none⟩ = some (.pointer (some ⟨m, 0, none⟩)) := U4.out.e.at20
      clear hb4 HU3 HX3 HY3 HB3 HM
      go_wp2_with fail
      (with_reducible refine (count_any U4.out.e.mem).mono ?_)
      rintro e w1 ⟨rfl, rfl⟩
      clear c20
      go_wp2_with fail
      (with_reducible refine (lresult_any X4.out).mono ?_)
      rintro e w1 ⟨rfl, nd2, rfl⟩
      have U5 := Lib.hid (U4.out.drewN nd2)
      have X5 := Lib.hid (X4.out.drewN nd2)
      have Y5 := Lib.hid (Y4.out.below (below_drewN W4 nd2))
      have B5 := Lib.hid (B4.out.trans ((below_drewN W4 nd2).mono B4.out.size))
      clear U4 X4 Y4 B4
      generalize W4.drewN nd2 = W5 at *
      have y2 : W5.cell? ⟨y, 2, none⟩ = some (.int .i64 R'.cd) := Y5.out.at_ 2
      have y3 : W5.cell? ⟨y, 3, none⟩ = some (.int .i64 R'.vl) := Y5.out.at_ 3
      have HOV := Lib.hid (releaser_over X5.out (.pointer (some ⟨p, 0, none⟩)))
      have HM2 := Lib.hid (msame_any U5.out.twin HRS.out)
      clear U5 X5 Y5
      go_wp2_with fail
      (with_reducible refine HOV.out.mono ?_)
      rintro e w1 ⟨rfl, rfl⟩
      go_wp2_with fail
      (with_reducible refine HM2.out.mono ?_)
      rintro e W6 ⟨rfl, hb6⟩
      have B6 := Lib.hid (B5.out.trans (hb6.mono B5.out.size))
      clear hb6
      go_wp2
      go_ret
      exact ⟨rfl, B6.out⟩
    | false =>
      go_wp2_with fail
      (with_reducible refine HM.out.mono ?_)
      rintro e W4 ⟨rfl, hb4⟩
      have M4 := Lib.hid ((HM3.out hdn).below hb4)
      obtain ⟨hz1, hz2⟩ := HZQ.out.1 hdn
      have HOF := Lib.hid (And.intro hz1 hz2)
      clear hz1 hz2 hb4 HU3 HX3 HY3 HB3 HM HM3
      rw [hdn, HOF.out.1, HOF.out.2] at M4
      simp only [Bool.false_eq_true, if_false] at M4
      have c20 : W4.cell? ⟨p, 20, none⟩ = some (.pointer (some ⟨m, 0, none⟩)) := M4.out.u.e.at20
      go_wp2_with fail
      (with_reducible refine (count_any M4.out.u.e.mem).mono ?_)
      rintro e w1 ⟨rfl, rfl⟩
      clear c20
      skip
      have HFN := Lib.hid (show LkOk F' from M4.out.fo)
      clear HCC HZQ HOF
      go_upto_region 16 with fail
      clear ew hgt
      generalize { a with ev := v3 } = a4 at *
      go_cut [128] from 117 to 128 (fun v wx => wx = W4 ∧ ∃ b, v = .bool b ∧ (b = true → n < nn))
      case first =>
        by_cases hnn : n < nn
        · obtain ⟨x0, rfl, hx0, hc0⟩ := (HZ.out.below M4.out.bb).2.2 n hnn
          generalize zs.getD n 0 = z at *
          have hnn2 : (n : Int) < (nn : Int) := by omega
          have hn0 : (0 : Int) ≤ (n : Int) := by omega
          generalize z.tmod 3 = z3 at *
          go_wp2_with fail
          go_meet
          case rel => exact ⟨rfl, _, rfl, fun _ => hnn⟩
        · have hnn2 : decide ((n : Int) < (nn : Int)) = false := decide_eq_false (by omega)
          go_wp2_with fail
          go_meet
          case rel => exact ⟨rfl, false, rfl, fun e => by cases e⟩
      case rest =>
        obtain ⟨rfl, b, rfl, hb⟩ := hcut
        have HBN := Lib.hid hb
        clear hb
        go_upto_if 128 with fail
        go_cut [] from 129 to 141 (fun wx => ∃ s5, MS W0 LkOk 9 150 B p m k g cap hd rv ev q y gy cy pst d es rs s5 F' a4 (C + 2 * n + 2) (T + n) x (lncells F' 0 0 ++ ([] : List Value)).toArray wx)
        case first =>
          cases b with
          | false =>
            go_wp2_with fail
            go_meet
            case rel => exact ⟨S', M4.out.up (C' := C + 2 * n + 2) (T' := T + n) (by omega) (by omega)⟩
          | true =>
            have hnn := HBN.out rfl
            obtain ⟨x0, rfl, hx0, hc0⟩ := (HZ.out.below M4.out.bb).2.2 n hnn
            generalize hzz : zs.getD n 0 = z at *
            have HZZ := Lib.hid hzz
            clear hzz
            have hnn2 : (n : Int) < (nn : Int) := by omega
            have hn0 : (0 : Int) ≤ (n : Int) := by omega
            go_wp2_with fail
            have M5 := Lib.hid (M4.out.below (below_drew (Below.refl _ _)))
            have y0 : wc.drew.cell? (x0.add n) = some (.int .i64 z) := hc0
            have HD := Lib.hid (fun (i j : Int) => disturb_any M5.out.u M5.out.sn ⟨M5.out.sc.1, by have := M5.out.sc.2; omega⟩ i j)
            clear hc0
            go_region_held3 (fun w' => w'.cell? (x0.add n) = some (.int .i64 z)) ((first | exact y1 | exact y0 | go_keep))
              ((go_at_call 39
                refine (HD.out _ _).mono ?_
                rintro e W5 ⟨s5, rfl, hu5, hn5, h15, h25, hf5⟩
                have M6 := Lib.hid (M5.out.dist odd_releaser hu5 hn5 h15 h25 hf5)
                have y1 : W5.cell? (x0.add n) = some (.int .i64 z) := by rw [← HZZ.out]; exact (HZ.out.below M6.out.bb).cell hnn
                clear hu5 hn5 h15 h25 hf5))
            go_wp2_with fail
            go_meet
            case rel => exact ⟨s5, M6.out.up (C' := C + 2 * n + 2) (T' := T + n) (by omega) (by omega)⟩
        case rest =>
          clear M4
          obtain ⟨s5, hM5⟩ := hcut
          have M5 := Lib.hid hM5
          clear hM5 HBN
          go_upto_region 18 with fail
          go_cut [153] from 142 to 153 (fun v wx => wx = wc ∧ ∃ b, v = .bool b)
          case first =>
            by_cases hnn : n < nn
            · obtain ⟨x0, rfl, hx0, hc0⟩ := (HZ.out.below M5.out.bb).2.2 n hnn
              generalize zs.getD n 0 = z at *
              have hnn2 : (n : Int) < (nn : Int) := by omega
              have hn0 : (0 : Int) ≤ (n : Int) := by omega
              generalize z.tmod 13 = z3 at *
              go_wp2_with fail
              go_meet
              case rel => exact ⟨rfl, _, rfl⟩
            · have hnn2 : decide ((n : Int) < (nn : Int)) = false := decide_eq_false (by omega)
              go_wp2_with fail
              go_meet
              case rel => exact ⟨rfl, false, rfl⟩
          case rest =>
            obtain ⟨rfl, b, rfl⟩ := hcut
            go_upto_if 153 with fail
            go_cut [] from 154 to 165 (fun wx => ∃ a5, MS W0 LkOk 9 150 B p m k g cap hd rv ev q y gy cy pst d es rs s5 F' a5 (C + 2 * n + 2) (T + n + 1) x (lncells F' 0 0 ++ ([] : List Value)).toArray wx)
            case first =>
              cases b with
              | false =>
                go_wp2_with fail
                go_meet
                case rel => exact ⟨a4, M5.out.up (by omega) (by omega)⟩
              | true =>
                have c21 : wc.cell? ⟨p, 21, none⟩ = some (.pointer (some ⟨k, 0, none⟩)) := M5.out.u.e.at21
                go_wp2_with fail
                (with_reducible refine (tick_any M5.out.u.e.clk).mono ?_)
                rintro e W6 ⟨rfl, hc6, hf6⟩
                have M7 := Lib.hid (M5.out.tick odd_releaser (by omega) hc6 hf6)
                have hu6 := M5.out.u.tick hc6 hf6
                have c17 : W6.cell? ⟨q, 17, none⟩ = some (.int .i64 a4.now) := hu6.f.m.blk.at_ 17
                have f17 := hu6.f.m.blk.free 17
                clear hc6 hf6 hu6 c21
                go_wp2_with fail
                go_meet
                case rel => exact ⟨_, M7.out⟩
            case rest =>
              clear M5
              obtain ⟨a5, hM6⟩ := hcut
              have M6 := Lib.hid hM6
              clear hM6
              by_cases hn2 : n = 2
              · have O6 := Lib.hid (show LB wc x 150 [] F' 0 0 from ⟨M6.out.bx, odd_releaser.t1, odd_releaser.t2, odd_releaser.t3, odd_releaser.t4⟩)
                have kc := meth_copy_releaser x
                have kd := ahead_copy_releaser x
                have hn3 : ((n : Int) == 2) = true := by simp; omega
                go_wp2_with fail
                (with_reducible refine (copy_releaser O6.out).mono ?_)
                rintro e W7 ⟨rfl, ho7, hb7⟩
                have M7 := Lib.hid (M6.out.below hb7)
                have O7 := Lib.hid ho7
                have hs7 := M6.out.bb.size
                have hz7 := M6.out.hz
                have HSZ := Lib.hid (show B ≤ wc.heap.size by omega)
                clear ho7 hb7 hs7 hz7 O6 M6
                go_wp2_with fail
                go_roundw
                case rel =>
                  have h := M7.out
                  exact ⟨n + 1, wc.heap.size, s5, F', a5, by omega, by go_num, rfl, ⟨h.u, O7.out.blk, h.my, h.sn, h.fo, h.fk, ⟨h.sc.1, by have := h.sc.2; omega⟩, ⟨h.tn.1, by have := h.tn.2; omega⟩, h.bb, HSZ.out, h.hz⟩⟩
                case measure => simp [intOf]; omega
              · have hn3 : ((n : Int) == 2) = false := by simp; omega
                go_wp2_with fail
                go_roundw
                case rel => exact ⟨n + 1, x, s5, F', a5, by omega, by go_num, rfl, M6.out.up (by omega) (by omega)⟩
                case measure => simp [intOf]; omega
end Go.Proofs.YtheimjcgpbmecaaGreat

namespace Go.Proofs.YtheimjcgpbmecaaGreat
open Go Go.RowKit

theorem short_one {w : World} {g : Nat} {a2 : Option Addr} {n2 c2 : Nat} (h : w.cell? ⟨g, 0, none⟩ = some (.slice a2 n2 c2)) (a : Option Addr) (n c : Nat) :
    Calls Tryz.prog 7 #[.slice a n c, .slice (some ⟨g, 0, none⟩) 1 1] w fun e w' => e = .returned (.bool (decide ((n : Int) ≤ 400) && decide ((n2 : Int) ≤ 400))) ∧ w = w' := by
  obtain ⟨R, hR⟩ : ∃ R, (decide ((n : Int) ≤ 400) && decide ((n2 : Int) ≤ 400)) = R := ⟨_, rfl⟩
  rw [hR]
  have HR := Lib.hid hR
  clear hR
  go_enter Tryz.func7, Tryz.ntmps7
  go_wp2_with fail
  go_loopw [5] (fun i wr => wr = w ∧ (i = .int .i64 0 ∨ (i = .int .i64 1 ∧ (n2 : Int) ≤ 400))) (fun i _ => (2 - intOf i).toNat)
  case atStart => exact ⟨rfl, .inl rfl⟩
  case round =>
    obtain ⟨rfl, rfl | ⟨rfl, h4⟩⟩ := hrel
    · by_cases h4 : (n2 : Int) ≤ 400
      · go_wp2_with fail
        go_roundw
        case rel => exact ⟨trivial, .inr ⟨rfl, h4⟩⟩
        case measure => simp [intOf]
      · have hr : R = false := by
          rw [← HR.out, decide_eq_false h4, Bool.and_false]
        subst hr
        go_wp2
        go_ret
        exact ⟨rfl, rfl⟩
    · have hr : R = decide ((n : Int) ≤ 400) := by
        rw [← HR.out, decide_eq_true h4, Bool.and_true]
      subst hr
      go_wp2
      go_ret
      exact ⟨rfl, rfl⟩

end Go.Proofs.YtheimjcgpbmecaaGreat

namespace Go.Proofs.YtheimjcgpbmecaaGreat
open Go Go.RowKit Go.Shelf
set_option linter.unusedSimpArgs false
set_option linter.unusedVariables false

/-- The comparison begins. -/
theorem ms_start15 {W0 w w1 w2 : World} {B p m k g n : Nat} {hd : List Value} {rv : Value} {q : Nat} {a : EnvA} {s : St} {d : Int} {rs : List Rec} {C T kd : Int} {x y gy cy : Nat} {ty : TypeId} {post : List Value} {f : Fra} (hB : W0.heap.size = B) (hd0 : Duo w B p m k g n hd rv nilV q a s s a.now d [] [] rs rs) (hn : s.U) (hc : 0 ≤ s.c ∧ s.c ≤ C) (ht : 0 ≤ a.now ∧ a.now ≤ T) (hb : Below W0.heap.size W0 w)
    (h1 : Below w.heap.size w w1) (ho : LB w1 x ty post f 0 0) (hx : w.heap.size ≤ x) (h2 : Below w1.heap.size w1 w2) (hm : Mach1 w1.heap.size w2 y gy cy [] f) (hok : LkOk f) (hkd : f.kd = kd) :
    MS W0 LkOk kd ty B p m k g n hd rv nilV q y gy cy [] d [] rs s f a C T x (lncells f 0 0 ++ post).toArray w2 := by
  have s1 := hb.size
  have s2 := h1.size
  have hbm := hm.bm
  have hbg := hm.bg
  exact ⟨(hd0.below h1).below h2, (ho.below h2).blk, ⟨hm.blk, hm.fr, by omega, by omega, hm.hc⟩, hn.n, hok, hkd, hc, ht, hb.trans ((h1.trans (h2.mono s2)).mono s1), by omega, hB⟩
theorem lkOk1 (kd a : Int) : LkOk (fra1 kd 0 0 0 0 a) := ⟨rfl, Int.le_refl _, Int.le_refl _, by show (0 : Int) ≤ _; omega⟩

set_option maxRecDepth 100000 in
set_option maxHeartbeats 16000000 in
theorem lines15_law (a0 : Option Addr) (n0 c0 : Nat) (z0 : List Int) (hv : Nat) (ow ki : Int) (a4 : Option Addr) (n4 c4 : Nat) (z4 : List Int) (w : World) (h0 : InB w w.heap.size a0 n0 z0) (hhv : hv < 18446744073709551616) (h4 : InInts w a4 n4 z4) :
    Calls Tryz.prog 6 #[.slice a0 n0 c0, .int .u64 hv, .int .i64 ow, .int .i64 ki, .slice a4 n4 c4] w fun e w' => e = .returned (.bool true) ∧ Below w.heap.size w w' := by
  have hm0 := h0.2.1
  have hm4 := h4.2.1
  unfold maxLen at hm4
  have X0 := Lib.hid (Blk.made w 60 #[.slice a4 n4 c4])
  have hb1 := below_one w (.cells #[.slice a4 n4 c4] 60)
  have B1 := Lib.hid hb1
  have I1 := Lib.hid (show InB (w.alloc (.cells #[.slice a4 n4 c4] 60)) (w.alloc (.cells #[.slice a4 n4 c4] 60)).heap.size a0 n0 z0 from (h0.below (Nat.le_refl _) hb1).mono hb1.size)
  have Z1 := Lib.hid (h4.below hb1)
  have SH := Lib.hid (short_one (w := w.alloc (.cells #[.slice a4 n4 c4] 60)) (show (w.alloc (.cells #[.slice a4 n4 c4] 60)).cell? ⟨w.heap.size, 0, none⟩ = some (.slice a4 n4 c4) from X0.out.at_ 0) a0 n0 c0)
  have HV := Lib.hid hhv
  clear h0 h4 hb1 hhv
  obtain ⟨sb, hsb⟩ : ∃ sb, (decide ((n0 : Int) ≤ 400) && decide ((n4 : Int) ≤ 400)) = sb := ⟨_, rfl⟩
  rw [hsb] at SH
  clear hsb
  go_enter Tryz.func6, Tryz.ntmps6
  go_wp2_with fail
  (with_reducible refine SH.out.mono ?_)
  rintro e w1 ⟨rfl, rfl⟩
  generalize w.alloc (.cells #[.slice a4 n4 c4] 60) = W1 at *
  clear SH X0
  cases sb with
  | false =>
    go_wp2
    go_ret
    exact ⟨rfl, B1.out⟩
  | true =>
  go_wp2_with fail
  (with_reducible refine (config_any I1.out c0).mono ?_)
  rintro e w2 ⟨u, rfl, hcfg, hb⟩
  obtain ⟨c, hcd⟩ : ∃ c, decC (strm z0) = c := ⟨_, rfl⟩
  rw [hcd] at hcfg
  have hck := chk_dec (strm z0)
  rw [hcd] at hck
  have HCK := Lib.hid hck
  obtain ⟨pa, pn, pc, sa, sn, sc, rfl, hl⟩ := hcfg.isCfg
  have H3 := Lib.hid ((hl.alloc (.cells (cc c pa pn pc sa sn sc) 29)).mono (Nat.zero_le _))
  have hX3 := Blk.made w2 29 (cc c pa pn pc sa sn sc)
  have hb3 := hb.alloc hb.size (.cells (cc c pa pn pc sa sn sc) 29)
  have B3 := Lib.hid (B1.out.trans (hb3.mono B1.out.size))
  have Z3 := Lib.hid (Z1.out.below hb3)
  clear hl hb hb3 hcd hck hcfg B1 Z1 I1
  obtain ⟨e0, e1, e2, e3, e4, e5, e6, e7, e8, e9, e10⟩ := eleven hX3
  clear hX3
  go_upto_region 4 with fail
  generalize w2.alloc (.cells (cc c pa pn pc sa sn sc) 29) = W3 at *
  generalize w2.heap.size = cb at *
  obtain ⟨n, hn⟩ : ∃ n, (rCells c).toNat = n := ⟨_, rfl⟩
  have HNN := Lib.hid (show 5 ≤ n ∧ n ≤ 70000 by have := (cfgIn_chk HCK.out).cells; omega)
  have HE := Lib.hid (envs_any (w := W3) (pc := pc) (sc := sc) (L := 0) (la := none) (lc := 0) (na := none) (nn := 0) (nc := 0) (zs := []) (T := 0) HCK.out H3.out hn rfl rfl (by omega) ⟨rfl, by simp, fun i hi => absurd hi (by omega)⟩ (fun W B x q g rv mv ys _ _ he hp _ => run0_any he hp (new_U _) none 0))
  clear hn
  go_wp2_with fail
  (with_reducible refine HE.out.mono ?_)
  rintro e w4 ⟨p, m, k, g, hd, rv, q, a, s, rs, d, rfl, hd4, hly, _, hsU, hsl, hsc, hnow, hrs, hks, hb4⟩
  have D4 := Lib.hid hd4
  have LY := Lib.hid hly
  have S4 := Lib.hid (And.intro hsU (And.intro hsl hsc))
  have B4 := Lib.hid hb4
  have R4 := Lib.hid (And.intro hnow (show rs.length ≤ 1000000 by have := (cfgIn_chk HCK.out).ta; omega))
  clear hd4 hly hsU hsl hsc hnow hrs hks hb4 HE e0 e1 e2 e3 e4 e5 e6 e7 e8 e9 e10
  go_wp2_with fail
  (with_reducible refine (awake15_any _).mono ?_)
  rintro e w5 ⟨rfl, hb5⟩
  have D5 := Lib.hid (D4.out.below hb5)
  have B5 := Lib.hid (B4.out.trans (hb5.mono B4.out.size))
  clear hb5 D4 B4
  go_upto_region 7 with fail
  have hmod : (hv : Int).tmod 3 = ((hv % 3 : Nat) : Int) := Int.ofNat_tmod hv 3
  obtain ⟨h3, hh3⟩ : ∃ h3 : Nat, hv % 3 = h3 := ⟨_, rfl⟩
  have hem : (hv : Int) % 3 = (h3 : Int) := by omega
  go_upto_if 38 with fail
  go_cut [] from 36 to 50 (fun wx => ∃ s', Duo wx W3.heap.size p m k g n hd rv nilV q a s' s' a.now d [] [] rs rs ∧ s'.U ∧ (0 ≤ s'.c ∧ s'.c ≤ 80000) ∧ Below W3.heap.size W3 wx)
  case first =>
    as_aux_lemma =>
      by_cases hp : 0 < h3
      · have hp2 : (0 : Int) < (h3 : Int) := by omega
        have hp3 : decide ((0 : Int) < (h3 : Int)) = true := by simpa using hp
        have c20 : w5.cell? ⟨p, 20, none⟩ = some (.pointer (some ⟨m, 0, none⟩)) := D5.out.e.at20
        go_wp2_with fail
        (with_reducible refine (store_any D5.out.e.mem 1 hv).mono ?_)
        rintro e w6 ⟨rfl, hm, hf⟩
        have D6 := Lib.hid (D5.out.pacc hm hf)
        have B6 := Lib.hid (below_of_fr B5.out hf D5.out.lowP)
        clear hm hf c20
        have hacc := eacc_store D6.out.f.m (j := 1) (by rw [S4.out.2.1]; have := HNN.out; omega) (hv : Int) 0
        rw [show ((1 : Nat) : Int) = 1 from rfl] at hacc
        have HACC := Lib.hid hacc
        clear hacc
        go_wp2_with fail
        (with_reducible refine HACC.out.mono ?_)
        rintro e w7 ⟨rfl, hm, hf⟩
        have D7 := Lib.hid (D6.out.racc hm hf)
        have B7 := Lib.hid (below_of_fr B6.out hf D6.out.lowR)
        clear hm hf
        have HGO := Lib.hid (show s.go 2 1 (fun _ => (hv : Int)) = s.acc 2 1 hv by
          unfold St.go
          rw [if_pos (show s.has (1 : Int) from ⟨by omega, by rw [S4.out.2.1]; have := HNN.out; omega⟩)]
          rfl)
        go_wp2_with fail
        go_meet
        case rel =>
          have h := D7.out
          rw [← HGO.out] at h
          have hc1 := go_c (s := s) 2 1 (fun _ => (hv : Int)) ⟨S4.out.2.2.1, by have := S4.out.2.2.2; have := HNN.out; omega⟩
          exact ⟨_, h, go_U S4.out.1 _ _ _ (fun _ _ => ⟨by omega, by have := HV.out; omega⟩), ⟨by have := S4.out.2.2.1; omega, by have := S4.out.2.2.2; have := HNN.out; omega⟩, B7.out⟩
      · have hp3 : decide ((0 : Int) < (h3 : Int)) = false := decide_eq_false (by omega)
        have hp4 : h3 = 0 := by omega
        go_wp2_with fail
        go_meet
        case rel => exact ⟨s, D5.out, S4.out.1, ⟨S4.out.2.2.1, by have := S4.out.2.2.2; have := HNN.out; omega⟩, B5.out⟩
  case rest =>
  obtain ⟨s', hd6, hu6, hc6, hb6⟩ := hcut
  have D6 := Lib.hid hd6
  have S6 := Lib.hid (And.intro hu6 hc6)
  have B6 := Lib.hid hb6
  clear hd6 hu6 hc6 hb6 D5 B5 S4 hmod hh3 hem
  go_wp2_with fail
  (with_reducible refine (releaser_new _).mono ?_)
  rintro e w7 ⟨xr, rfl, ho, hx, hb7⟩
  have O7 := Lib.hid (And.intro ho (And.intro hx hb7))
  clear ho hx hb7
  have hmk9 := fun V => make_any { fra1 9 0 0 0 0 0 with ln := 0 } V rfl
  go_wp2_with fail
  (with_reducible refine (hmk9 _).mono ?_)
  rintro e w8 ⟨yr, gyr, cyr, rfl, hm, hb8⟩
  have M8 := Lib.hid (And.intro hm hb8)
  clear hm hb8 hmk9
  go_wp2_with fail
  (with_reducible refine (rdraw_any ki 3 (by omega) _).mono ?_)
  rintro e w9 ⟨rfl, rfl⟩
  have hdr := drw_in ki 3 (by omega)
  generalize drw ki 3 = kk at *
  by_cases hk0 : kk = 0
  · subst hk0
    have D9 := Lib.hid ((D6.out.below O7.out.2.2).below M8.out.2)
    have B9 := Lib.hid (B6.out.trans ((O7.out.2.2.trans (M8.out.2.mono O7.out.2.2.size)).mono B6.out.size))
    go_wp2_with fail
    (with_reducible refine (acquirer_new ow _).mono ?_)
    rintro e wA ⟨x, rfl, ho, hx, hbA⟩
    have OA := Lib.hid (And.intro ho (And.intro hx hbA))
    clear ho hx hbA
    have hmk := fun V => make_any { fra1 7 0 0 0 0 ow with ln := 0 } V rfl
    go_wp2_with fail
    (with_reducible refine (hmk _).mono ?_)
    rintro e wB ⟨y, gy, cy, rfl, hm, hbB⟩
    have MM := Lib.hid (ms_start15 (C := 80000) (T := 0) rfl D9.out S6.out.1 S6.out.2 R4.out.1 B9.out OA.out.2.2 OA.out.1 OA.out.2.1 hbB hm (lkOk1 7 ow) rfl)
    clear hm hbB hmk
    go_wp2_with fail
    (with_reducible refine (match_acquirer LY.out MM.out (by omega) (by omega) R4.out.2 Z3.out).mono ?_)
    rintro e wZ ⟨rfl, hbZ⟩
    go_wp2
    go_ret
    exact ⟨rfl, B3.out.trans (hbZ.mono B3.out.size)⟩
  by_cases hk1 : kk = 1
  · subst hk1
    have D9 := Lib.hid ((D6.out.below O7.out.2.2).below M8.out.2)
    have B9 := Lib.hid (B6.out.trans ((O7.out.2.2.trans (M8.out.2.mono O7.out.2.2.size)).mono B6.out.size))
    go_wp2_with fail
    (with_reducible refine (trier_new ow _).mono ?_)
    rintro e wA ⟨x, rfl, ho, hx, hbA⟩
    have OA := Lib.hid (And.intro ho (And.intro hx hbA))
    clear ho hx hbA
    have hmk := fun V => make_any { fra1 8 0 0 0 0 ow with ln := 0 } V rfl
    go_wp2_with fail
    (with_reducible refine (hmk _).mono ?_)
    rintro e wB ⟨y, gy, cy, rfl, hm, hbB⟩
    have MM := Lib.hid (ms_start15 (C := 80000) (T := 0) rfl D9.out S6.out.1 S6.out.2 R4.out.1 B9.out OA.out.2.2 OA.out.1 OA.out.2.1 hbB hm (lkOk1 8 ow) rfl)
    clear hm hbB hmk
    go_wp2_with fail
    (with_reducible refine (match_trier LY.out MM.out (by omega) (by omega) R4.out.2 Z3.out).mono ?_)
    rintro e wZ ⟨rfl, hbZ⟩
    go_wp2
    go_ret
    exact ⟨rfl, B3.out.trans (hbZ.mono B3.out.size)⟩
  · have hk2 : kk = 2 := by omega
    subst hk2
    have MM := Lib.hid (ms_start15 (C := 80000) (T := 0) rfl D6.out S6.out.1 S6.out.2 R4.out.1 B6.out O7.out.2.2 O7.out.1 O7.out.2.1 M8.out.2 M8.out.1 (lkOk1 9 0) rfl)
    go_wp2_with fail
    (with_reducible refine (match_releaser LY.out MM.out (by omega) (by omega) R4.out.2 Z3.out).mono ?_)
    rintro e wZ ⟨rfl, hbZ⟩
    go_wp2
    go_ret
    exact ⟨rfl, B3.out.trans (hbZ.mono B3.out.size)⟩
end Go.Proofs.YtheimjcgpbmecaaGreat

namespace Go.Proofs.YtheimjcgpbmecaaGreat
open Go Go.ChangeShapes Go.WideShapes Go.ChangeAt Go.RowKit

set_option maxRecDepth 100000 in
theorem open_bytesB {H : Type} {enc : TypeId × Value → H} {w : World} {base b0 : Nat} {spare : Nat → Bool} {held : Bool} {r : Reach} {v : Value} {d : DataW H} {p : List MemPlace}
    (hv : Value.okWide Tryz.prog w r b0 22 v) (h : DataW.Trod enc Tryz.prog w base spare held 22 v d p) :
    ∃ (a : Option Addr) (n c : Nat) (zs : List Int), v = .slice a n c ∧ InB w w.heap.size a n zs ∧ n ≤ c := by
  obtain ⟨a, n, c, rfl⟩ := okWide_slice Tryz.underlying22 hv
  obtain ⟨fuel, hf⟩ := h
  rcases open_ints Tryz.underlying22 Tryz.underlying5 (by kernel_rfl) hf with ⟨hcs, _⟩ | ⟨x, l, c', zs, hcs, _, hl, hm, hz, _, hcell, hwf⟩
  · simp [Value.cells] at hcs
    obtain ⟨rfl, rfl, rfl⟩ := hcs
    exact ⟨_, _, _, [], rfl, inB_nil _ _ _, Nat.le_refl _⟩
  · simp [Value.cells] at hcs
    obtain ⟨rfl, rfl, rfl⟩ := hcs
    have hnz : n ≤ zs.length := by rw [hz]; split <;> omega
    refine ⟨_, _, _, zs.take n, rfl, ⟨by simp; omega, by omega, fun i hi => ⟨x, rfl, ?_, ?_, ?_⟩⟩, by omega⟩
    · have := World.block_lt_of_cell? w _ (hcell i (by omega))
      rwa [show (x.add i).block = x.block by unfold Addr.add; split <;> rfl] at this
    · rw [hcell i (by omega), List.getD_eq_getElem?_getD, List.getD_eq_getElem?_getD, List.getElem?_take, if_pos hi]
    · have hi' : i < zs.length := by omega
      have hw := hwf (zs[i]) (List.getElem_mem hi')
      have e : (zs.take n).getD i 0 = zs[i] := by
        rw [List.getD_eq_getElem?_getD, List.getElem?_take, if_pos hi, List.getElem?_eq_getElem hi']
        rfl
      rw [e]
      simp only [Lit.wf, Bool.and_eq_true, decide_eq_true_eq] at hw
      have h0 : IntKind.u8.min = 0 := rfl
      have h1 : IntKind.u8.max = 255 := rfl
      rw [h0, h1] at hw
      exact hw
end Go.Proofs.YtheimjcgpbmecaaGreat
