/-
  workstealmatch.Match of a machine of package lock (acquirer) and of the reference's. (Written by wip/gen_lk.py.)
  workstealmatch.Match of a machine of package lock (trier) and of the reference's. (Written by wip/gen_lk.py.)
-/
import Derived.Test.YtheimjcgpbmecaaGreatMgBY
import Derived.Test.YtheimjcgpbmecaaGreatMgAW
import Derived.Test.YtheimjcgpbmecaaGreatMgAS
import Derived.Test.YtheimjcgpbmecaaGreatMgBF
import Derived.Test.YtheimjcgpbmecaaGreatMgBK
import Derived.Test.YtheimjcgpbmecaaGreatMgAL
import Derived.LoopTactic
import Derived.OwnWalk
import Derived.Deep.Cut
import Derived.Deep.CutRange
namespace Go.Proofs.YtheimjcgpbmecaaGreat
open Go Go.RowKit Go.Shelf
set_option linter.unusedSimpArgs false
set_option linter.unusedVariables false

theorem leafS_acquirer (s : St) (f : Fra) (h : f.kd = 7) : leafS s f = acqS s f := by simp [leafS, h, acqS, lkTake, lkU_eq]
/-- What the loop keeps. -/
def MatR_acquirer (W0 : World) (B p m k g cap : Nat) (hd : List Value) (rv ev : Value) (q y gy cy : Nat) (pst : List Value) (d : Int) (es : List Ev) (rs : List Rec) (C T : Int) (i xv : Value) (wr : World) : Prop :=
  ∃ (n x : Nat) (s : St) (f : Fra) (a : EnvA), n ≤ 30 ∧ i = .int .i64 n ∧ xv = .iface 151 (.pointer (some ⟨x, 0, none⟩)) ∧ MS W0 LkOk 7 155 B p m k g cap hd rv ev q y gy cy pst d es rs s f a (C + 2 * n) (T + n) x (lncells f 0 0 ++ ([.int .i64 f.fa] : List Value)).toArray wr
set_option maxRecDepth 100000 in
set_option maxHeartbeats 16000000 in
theorem match_acquirer {W0 w : World} {B p m k g cap : Nat} {hd : List Value} {rv ev : Value} {q y gy cy : Nat} {pst : List Value} {d : Int} {es : List Ev} {rs : List Rec} {s : St} {f : Fra} {a : EnvA} {C T : Int} {x : Nat} {cf : Cfg}
    (hlay : LayHd hd cf) (h : MS W0 LkOk 7 155 B p m k g cap hd rv ev q y gy cy pst d es rs s f a C T x (lncells f 0 0 ++ ([.int .i64 f.fa] : List Value)).toArray w) (hC : C ≤ 200000) (hT : T ≤ 100000) (hrs : rs.length ≤ 1000000) {na : Option Addr} {nn nc : Nat} {zs : List Int} (hz : InInts W0 na nn zs) :
    Calls Tryz.prog 24 #[.pointer (some ⟨p, 0, none⟩), .pointer (some ⟨q, 0, none⟩), .iface 151 (.pointer (some ⟨x, 0, none⟩)), .pointer (some ⟨y, 0, none⟩), .slice na nn nc, .int .i64 30] w fun e w' => e = .returned (.bool true) ∧ Below W0.heap.size W0 w' := by
  have HZ := Lib.hid hz
  have HRS := Lib.hid hrs
  have HLY := Lib.hid hlay
  clear hlay
  have c20 : w.cell? ⟨p, 20, none⟩ = some (.pointer (some ⟨m, 0, none⟩)) := h.u.e.at20
  have c21 : w.cell? ⟨p, 21, none⟩ = some (.pointer (some ⟨k, 0, none⟩)) := h.u.e.at21
  have HST := Lib.hid (show MatR_acquirer W0 B p m k g cap hd rv ev q y gy cy pst d es rs C T (.int .i64 0) (.iface 151 (.pointer (some ⟨x, 0, none⟩))) w from ⟨0, x, s, f, a, by omega, rfl, rfl, h.up (by omega) (by omega)⟩)
  clear h hz hrs
  go_enter Tryz.func24, Tryz.ntmps24
  go_wp2_with fail
  clear c20 c21
  go_loopw [13, 2] (fun i xv wr => MatR_acquirer W0 B p m k g cap hd rv ev q y gy cy pst d es rs C T i xv wr) (fun i _ _ => 30 - (intOf i).toNat)
  case atStart => exact HST.out
  case round =>
    clear HST
    obtain ⟨n, x, s, f, a, hn, rfl, rfl, h⟩ := hrel
    have H := Lib.hid h
    clear h
    by_cases hlt : n < 30
    case neg =>
      obtain rfl : n = 30 := by omega
      go_wp2
      go_ret
      exact ⟨rfl, H.out.bb⟩
    have HO := Lib.hid (show LB wr x 155 [.int .i64 f.fa] f 0 0 from ⟨H.out.bx, odd_acquirer.t1, odd_acquirer.t2, odd_acquirer.t3, odd_acquirer.t4⟩)
    have km := meth_step_acquirer x
    have ka := ahead_step_acquirer x
    have kr := meth_result_acquirer x
    have kb := ahead_result_acquirer x
    have hlt2 : (n : Int) < 30 := by omega
    go_wp2_with fail
    (with_reducible refine (lresult_any HO.out).mono ?_)
    rintro e w1 ⟨rfl, nd, rfl⟩
    have H1 := Lib.hid (H.out.below (below_drewN wr nd))
    have O1 := Lib.hid (HO.out.drewN nd)
    clear H HO
    generalize wr.drewN nd = W1 at *
    have c20 : W1.cell? ⟨p, 20, none⟩ = some (.pointer (some ⟨m, 0, none⟩)) := H1.out.u.e.at20
    go_wp2_with fail
    (with_reducible refine (count_any H1.out.u.e.mem).mono ?_)
    rintro e w1 ⟨rfl, rfl⟩
    clear c20
    have HK := Lib.hid H1.out.fo
    have HS := Lib.hid (acquirer_any2 H1.out.u.e HLY.out O1.out HK.out.1)
    go_wp2_with fail
    (with_reducible refine HS.out.mono ?_)
    rintro e W2 ⟨rfl, hp2, hb2, hf2⟩
    have hy2 := H1.out.my.frm hf2 (by
      simp only [List.mem_cons, List.not_mem_nil, or_false, not_or]
      obtain ⟨cur, hg, _⟩ := H1.out.u.e.mem.row.blk
      exact ⟨H1.out.my.blk.apart H1.out.u.e.mem.blk (by decide), H1.out.my.blk.apart hg (by decide), H1.out.my.blk.apart H1.out.bx (by decide)⟩) (by
      simp only [List.mem_cons, List.not_mem_nil, or_false, not_or]
      obtain ⟨cur, hg, _⟩ := H1.out.u.e.mem.row.blk
      exact ⟨H1.out.my.fr.blk.apart H1.out.u.e.mem.blk (by decide), H1.out.my.fr.blk.apart hg (by decide), H1.out.my.fr.blk.apart H1.out.bx (by decide)⟩)
    have hu2 := H1.out.u.prog H1.out.bx odd_acquirer H1.out.hx hp2 hf2
    have hst := step_any hu2.f hy2 (by rw [H1.out.fk]; exact .inr (.inr (.inr (.inr (.inr (.inl rfl)))))) HK.out.2.1 HK.out.2.2.1 HK.out.2.2.2
    rw [leafS_acquirer s f H1.out.fk] at hst
    have HST := Lib.hid hst
    have HW2 := Lib.hid (And.intro hp2 (And.intro hb2 (And.intro hf2 hy2)))
    clear hp2 hb2 hf2 hy2 hu2 hst
    go_wp2_with fail
    (with_reducible refine HST.out.mono ?_)
    rintro e W3 ⟨v3, rfl, he3, hfr3, hb3, hf3, hv3⟩
    obtain ⟨hp2, hb2, hf2, hy2⟩ := HW2.out
    obtain ⟨hu3, hx3, hbb3, hms3⟩ := MS.stepped acq_keeps H1.out odd_acquirer ⟨by decide, by decide⟩ (by omega) hp2 hb2.blk hf2 he3 hfr3 hb3 hf3 hv3 hy2
    have hcc := acq_keeps.c s f ⟨H1.out.sc.1, by have := H1.out.sc.2; omega⟩
    have HU3 := Lib.hid hu3
    have HX3 := Lib.hid hx3
    have HB3 := Lib.hid hbb3
    have HM3 := Lib.hid hms3
    have HY3 := Lib.hid hb3
    have HCC := Lib.hid (And.intro hcc H1.out.sc)
    clear hp2 hb2 hf2 hy2 hu3 hx3 hbb3 hms3 hcc he3 hfr3 hb3 hf3 hv3 HST HW2 HS H1 O1
    have hz0 := acq_keeps.z s f
    have hq0 := acq_keeps.q s f
    have HZQ := Lib.hid (And.intro hz0 hq0)
    clear hz0 hq0
    generalize (acqS s f).1 = S' at *
    generalize (acqS s f).2.1 = F' at *
    generalize (acqS s f).2.2 = R' at *
    have ew : wrap64 (s.c + 1) = s.c + 1 := by have := HCC.out; unfold wrap64; omega
    have hgt : decide (s.c + 1 < S'.c) = false := decide_eq_false (by have := HCC.out; omega)
    have HM := Lib.hid (msame_any HU3.out.twin HRS.out)
    cases hdn : R'.dn with
    | true =>
      rw [hdn] at HX3 HY3
      go_wp2_with fail
      (with_reducible refine HM.out.mono ?_)
      rintro e W4 ⟨rfl, hb4⟩
      have U4 := Lib.hid (HU3.out.below hb4)
      have X4 := Lib.hid (show LB W4 x 155 [.int .i64 F'.fa] { F' with ln := 0 } R'.cd R'.vl from ⟨(by have := HX3.out.below hb4; simpa using this), odd_acquirer.t1, odd_acquirer.t2, odd_acquirer.t3, odd_acquirer.t4⟩)
      have Y4 := Lib.hid (show Blk W4 y 133 (mcells gy 0 cy true R'.cd R'.vl) from by have := HY3.out.below hb4; simpa using this)
      have B4 := Lib.hid (HB3.out.trans (hb4.mono HB3.out.size))
      have c20 : W4.cell? ⟨p, 20, none⟩ = some (.pointer (some ⟨m, 0, none⟩)) := U4.out.e.at20
      clear hb4 HU3 HX3 HY3 HB3 HM
      go_wp2_with fail
      (with_reducible refine (count_any U4.out.e.mem).mono ?_)
      rintro e w1 ⟨rfl, rfl⟩
      clear c20
      go_wp2_with fail
      (with_reducible refine (lresult_any X4.out).mono ?_)
      rintro e w1 ⟨rfl, nd2, rfl⟩
      have U5 := Lib.hid (U4.out.drewN nd2)
      have X5 := Lib.hid (X4.out.drewN nd2)
      have Y5 := Lib.hid (Y4.out.below (below_drewN W4 nd2))
      have B5 := Lib.hid (B4.out.trans ((below_drewN W4 nd2).mono B4.out.size))
      clear U4 X4 Y4 B4
      generalize W4.drewN nd2 = W5 at *
      have y2 : W5.cell? ⟨y, 2, none⟩ = some (.int .i64 R'.cd) := Y5.out.at_ 2
      have y3 : W5.cell? ⟨y, 3, none⟩ = some (.int .i64 R'.vl) := Y5.out.at_ 3
      have HOV := Lib.hid (acquirer_over X5.out (.pointer (some ⟨p, 0, none⟩)))
      have HM2 := Lib.hid (msame_any U5.out.twin HRS.out)
      clear U5 X5 Y5
      go_wp2_with fail
      (with_reducible refine HOV.out.mono ?_)
      rintro e w1 ⟨rfl, rfl⟩
      go_wp2_with fail
      (with_reducible refine HM2.out.mono ?_)
      rintro e W6 ⟨rfl, hb6⟩
      have B6 := Lib.hid (B5.out.trans (hb6.mono B5.out.size))
      clear hb6
      go_wp2
      go_ret
      exact ⟨rfl, B6.out⟩
    | false =>
      go_wp2_with fail
      (with_reducible refine HM.out.mono ?_)
      rintro e W4 ⟨rfl, hb4⟩
      have M4 := Lib.hid ((HM3.out hdn).below hb4)
      obtain ⟨hz1, hz2⟩ := HZQ.out.1 hdn
      have HOF := Lib.hid (And.intro hz1 hz2)
      clear hz1 hz2 hb4 HU3 HX3 HY3 HB3 HM HM3
      rw [hdn, HOF.out.1, HOF.out.2] at M4
      simp only [Bool.false_eq_true, if_false] at M4
      have c20 : W4.cell? ⟨p, 20, none⟩ = some (.pointer (some ⟨m, 0, none⟩)) := M4.out.u.e.at20
      go_wp2_with fail
      (with_reducible refine (count_any M4.out.u.e.mem).mono ?_)
      rintro e w1 ⟨rfl, rfl⟩
      clear c20
      skip
      have HFN := Lib.hid (show LkOk F' from M4.out.fo)
      clear HCC HZQ HOF
      go_upto_region 16 with fail
      clear ew hgt
      generalize { a with ev := v3 } = a4 at *
      go_cut [128] from 117 to 128 (fun v wx => wx = W4 ∧ ∃ b, v = .bool b ∧ (b = true → n < nn))
      case first =>
        by_cases hnn : n < nn
        · obtain ⟨x0, rfl, hx0, hc0⟩ := (HZ.out.below M4.out.bb).2.2 n hnn
          generalize zs.getD n 0 = z at *
          have hnn2 : (n : Int) < (nn : Int) := by omega
          have hn0 : (0 : Int) ≤ (n : Int) := by omega
          generalize z.tmod 3 = z3 at *
          go_wp2_with fail
          go_meet
          case rel => exact ⟨rfl, _, rfl, fun _ => hnn⟩
        · have hnn2 : decide ((n : Int) < (nn : Int)) = false := decide_eq_false (by omega)
          go_wp2_with fail
          go_meet
          case rel => exact ⟨rfl, false, rfl, fun e => by cases e⟩
      case rest =>
        obtain ⟨rfl, b, rfl, hb⟩ := hcut
        have HBN := Lib.hid hb
        clear hb
        go_upto_if 128 with fail
        go_cut [] from 129 to 141 (fun wx => ∃ s5, MS W0 LkOk 7 155 B p m k g cap hd rv ev q y gy cy pst d es rs s5 F' a4 (C + 2 * n + 2) (T + n) x (lncells F' 0 0 ++ ([.int .i64 F'.fa] : List Value)).toArray wx)
        case first =>
          cases b with
          | false =>
            go_wp2_with fail
            go_meet
            case rel => exact ⟨S', M4.out.up (C' := C + 2 * n + 2) (T' := T + n) (by omega) (by omega)⟩
          | true =>
            have hnn := HBN.out rfl
            obtain ⟨x0, rfl, hx0, hc0⟩ := (HZ.out.below M4.out.bb).2.2 n hnn
            generalize hzz : zs.getD n 0 = z at *
            have HZZ := Lib.hid hzz
            clear hzz
            have hnn2 : (n : Int) < (nn : Int) := by omega
            have hn0 : (0 : Int) ≤ (n : Int) := by omega
            go_wp2_with fail
            have M5 := Lib.hid (M4.out.below (below_drew (Below.refl _ _)))
            have y0 : wc.drew.cell? (x0.add n) = some (.int .i64 z) := hc0
            have HD := Lib.hid (fun (i j : Int) => disturb_any M5.out.u M5.out.sn ⟨M5.out.sc.1, by have := M5.out.sc.2; omega⟩ i j)
            clear hc0
            go_region_held3 (fun w' => w'.cell? (x0.add n) = some (.int .i64 z)) ((first | exact y1 | exact y0 | go_keep))
              ((go_at_call 39
                refine (HD.out _ _).mono ?_
                rintro e W5 ⟨s5, rfl, hu5, hn5, h15, h25, hf5⟩
                have M6 := Lib.hid (M5.out.dist odd_acquirer hu5 hn5 h15 h25 hf5)
                have y1 : W5.cell? (x0.add n) = some (.int .i64 z) := by rw [← HZZ.out]; exact (HZ.out.below M6.out.bb).cell hnn
                clear hu5 hn5 h15 h25 hf5))
            go_wp2_with fail
            go_meet
            case rel => exact ⟨s5, M6.out.up (C' := C + 2 * n + 2) (T' := T + n) (by omega) (by omega)⟩
        case rest =>
          clear M4
          obtain ⟨s5, hM5⟩ := hcut
          have M5 := Lib.hid hM5
          clear hM5 HBN
          go_upto_region 18 with fail
          go_cut [153] from 142 to 153 (fun v wx => wx = wc ∧ ∃ b, v = .bool b)
          case first =>
            by_cases hnn : n < nn
            · obtain ⟨x0, rfl, hx0, hc0⟩ := (HZ.out.below M5.out.bb).2.2 n hnn
              generalize zs.getD n 0 = z at *
              have hnn2 : (n : Int) < (nn : Int) := by omega
              have hn0 : (0 : Int) ≤ (n : Int) := by omega
              generalize z.tmod 13 = z3 at *
              go_wp2_with fail
              go_meet
              case rel => exact ⟨rfl, _, rfl⟩
            · have hnn2 : decide ((n : Int) < (nn : Int)) = false := decide_eq_false (by omega)
              go_wp2_with fail
              go_meet
              case rel => exact ⟨rfl, false, rfl⟩
          case rest =>
            obtain ⟨rfl, b, rfl⟩ := hcut
            go_upto_if 153 with fail
            go_cut [] from 154 to 165 (fun wx => ∃ a5, MS W0 LkOk 7 155 B p m k g cap hd rv ev q y gy cy pst d es rs s5 F' a5 (C + 2 * n + 2) (T + n + 1) x (lncells F' 0 0 ++ ([.int .i64 F'.fa] : List Value)).toArray wx)
            case first =>
              cases b with
              | false =>
                go_wp2_with fail
                go_meet
                case rel => exact ⟨a4, M5.out.up (by omega) (by omega)⟩
              | true =>
                have c21 : wc.cell? ⟨p, 21, none⟩ = some (.pointer (some ⟨k, 0, none⟩)) := M5.out.u.e.at21
                go_wp2_with fail
                (with_reducible refine (tick_any M5.out.u.e.clk).mono ?_)
                rintro e W6 ⟨rfl, hc6, hf6⟩
                have M7 := Lib.hid (M5.out.tick odd_acquirer (by omega) hc6 hf6)
                have hu6 := M5.out.u.tick hc6 hf6
                have c17 : W6.cell? ⟨q, 17, none⟩ = some (.int .i64 a4.now) := hu6.f.m.blk.at_ 17
                have f17 := hu6.f.m.blk.free 17
                clear hc6 hf6 hu6 c21
                go_wp2_with fail
                go_meet
                case rel => exact ⟨_, M7.out⟩
            case rest =>
              clear M5
              obtain ⟨a5, hM6⟩ := hcut
              have M6 := Lib.hid hM6
              clear hM6
              by_cases hn2 : n = 2
              · have O6 := Lib.hid (show LB wc x 155 [.int .i64 F'.fa] F' 0 0 from ⟨M6.out.bx, odd_acquirer.t1, odd_acquirer.t2, odd_acquirer.t3, odd_acquirer.t4⟩)
                have kc := meth_copy_acquirer x
                have kd := ahead_copy_acquirer x
                have hn3 : ((n : Int) == 2) = true := by simp; omega
                go_wp2_with fail
                (with_reducible refine (copy_acquirer O6.out).mono ?_)
                rintro e W7 ⟨rfl, ho7, hb7⟩
                have M7 := Lib.hid (M6.out.below hb7)
                have O7 := Lib.hid ho7
                have hs7 := M6.out.bb.size
                have hz7 := M6.out.hz
                have HSZ := Lib.hid (show B ≤ wc.heap.size by omega)
                clear ho7 hb7 hs7 hz7 O6 M6
                go_wp2_with fail
                go_roundw
                case rel =>
                  have h := M7.out
                  exact ⟨n + 1, wc.heap.size, s5, F', a5, by omega, by go_num, rfl, ⟨h.u, O7.out.blk, h.my, h.sn, h.fo, h.fk, ⟨h.sc.1, by have := h.sc.2; omega⟩, ⟨h.tn.1, by have := h.tn.2; omega⟩, h.bb, HSZ.out, h.hz⟩⟩
                case measure => simp [intOf]; omega
              · have hn3 : ((n : Int) == 2) = false := by simp; omega
                go_wp2_with fail
                go_roundw
                case rel => exact ⟨n + 1, x, s5, F', a5, by omega, by go_num, rfl, M6.out.up (by omega) (by omega)⟩
                case measure => simp [intOf]; omega
end Go.Proofs.YtheimjcgpbmecaaGreat

namespace Go.Proofs.YtheimjcgpbmecaaGreat
open Go Go.RowKit Go.Shelf
set_option linter.unusedSimpArgs false
set_option linter.unusedVariables false

theorem leafS_trier (s : St) (f : Fra) (h : f.kd = 8) : leafS s f = tryS s f := by simp [leafS, h, tryS, lkTake, lkU_eq]
/-- What the loop keeps. -/
def MatR_trier (W0 : World) (B p m k g cap : Nat) (hd : List Value) (rv ev : Value) (q y gy cy : Nat) (pst : List Value) (d : Int) (es : List Ev) (rs : List Rec) (C T : Int) (i xv : Value) (wr : World) : Prop :=
  ∃ (n x : Nat) (s : St) (f : Fra) (a : EnvA), n ≤ 30 ∧ i = .int .i64 n ∧ xv = .iface 156 (.pointer (some ⟨x, 0, none⟩)) ∧ MS W0 LkOk 8 157 B p m k g cap hd rv ev q y gy cy pst d es rs s f a (C + 2 * n) (T + n) x (lncells f 0 0 ++ ([.int .i64 f.fa] : List Value)).toArray wr
set_option maxRecDepth 100000 in
set_option maxHeartbeats 16000000 in
theorem match_trier {W0 w : World} {B p m k g cap : Nat} {hd : List Value} {rv ev : Value} {q y gy cy : Nat} {pst : List Value} {d : Int} {es : List Ev} {rs : List Rec} {s : St} {f : Fra} {a : EnvA} {C T : Int} {x : Nat} {cf : Cfg}
    (hlay : LayHd hd cf) (h : MS W0 LkOk 8 157 B p m k g cap hd rv ev q y gy cy pst d es rs s f a C T x (lncells f 0 0 ++ ([.int .i64 f.fa] : List Value)).toArray w) (hC : C ≤ 200000) (hT : T ≤ 100000) (hrs : rs.length ≤ 1000000) {na : Option Addr} {nn nc : Nat} {zs : List Int} (hz : InInts W0 na nn zs) :
    Calls Tryz.prog 24 #[.pointer (some ⟨p, 0, none⟩), .pointer (some ⟨q, 0, none⟩), .iface 156 (.pointer (some ⟨x, 0, none⟩)), .pointer (some ⟨y, 0, none⟩), .slice na nn nc, .int .i64 30] w fun e w' => e = .returned (.bool true) ∧ Below W0.heap.size W0 w' := by
  have HZ := Lib.hid hz
  have HRS := Lib.hid hrs
  have HLY := Lib.hid hlay
  clear hlay
  have c20 : w.cell? ⟨p, 20, none⟩ = some (.pointer (some ⟨m, 0, none⟩)) := h.u.e.at20
  have c21 : w.cell? ⟨p, 21, none⟩ = some (.pointer (some ⟨k, 0, none⟩)) := h.u.e.at21
  have HST := Lib.hid (show MatR_trier W0 B p m k g cap hd rv ev q y gy cy pst d es rs C T (.int .i64 0) (.iface 156 (.pointer (some ⟨x, 0, none⟩))) w from ⟨0, x, s, f, a, by omega, rfl, rfl, h.up (by omega) (by omega)⟩)
  clear h hz hrs
  go_enter Tryz.func24, Tryz.ntmps24
  go_wp2_with fail
  clear c20 c21
  go_loopw [13, 2] (fun i xv wr => MatR_trier W0 B p m k g cap hd rv ev q y gy cy pst d es rs C T i xv wr) (fun i _ _ => 30 - (intOf i).toNat)
  case atStart => exact HST.out
  case round =>
    clear HST
    obtain ⟨n, x, s, f, a, hn, rfl, rfl, h⟩ := hrel
    have H := Lib.hid h
    clear h
    by_cases hlt : n < 30
    case neg =>
      obtain rfl : n = 30 := by omega
      go_wp2
      go_ret
      exact ⟨rfl, H.out.bb⟩
    have HO := Lib.hid (show LB wr x 157 [.int .i64 f.fa] f 0 0 from ⟨H.out.bx, odd_trier.t1, odd_trier.t2, odd_trier.t3, odd_trier.t4⟩)
    have km := meth_step_trier x
    have ka := ahead_step_trier x
    have kr := meth_result_trier x
    have kb := ahead_result_trier x
    have hlt2 : (n : Int) < 30 := by omega
    go_wp2_with fail
    (with_reducible refine (lresult_any HO.out).mono ?_)
    rintro e w1 ⟨rfl, nd, rfl⟩
    have H1 := Lib.hid (H.out.below (below_drewN wr nd))
    have O1 := Lib.hid (HO.out.drewN nd)
    clear H HO
    generalize wr.drewN nd = W1 at *
    have c20 : W1.cell? ⟨p, 20, none⟩ = some (.pointer (some ⟨m, 0, none⟩)) := H1.out.u.e.at20
    go_wp2_with fail
    (with_reducible refine (count_any H1.out.u.e.mem).mono ?_)
    rintro e w1 ⟨rfl, rfl⟩
    clear c20
    have HK := Lib.hid H1.out.fo
    have HS := Lib.hid (trier_any2 H1.out.u.e HLY.out O1.out HK.out.1)
    go_wp2_with fail
    (with_reducible refine HS.out.mono ?_)
    rintro e W2 ⟨rfl, hp2, hb2, hf2⟩
    have hy2 := H1.out.my.frm hf2 (by
      simp only [List.mem_cons, List.not_mem_nil, or_false, not_or]
      obtain ⟨cur, hg, _⟩ := H1.out.u.e.mem.row.blk
      exact ⟨H1.out.my.blk.apart H1.out.u.e.mem.blk (by decide), H1.out.my.blk.apart hg (by decide), H1.out.my.blk.apart H1.out.bx (by decide)⟩) (by
      simp only [List.mem_cons, List.not_mem_nil, or_false, not_or]
      obtain ⟨cur, hg, _⟩ := H1.out.u.e.mem.row.blk
      exact ⟨H1.out.my.fr.blk.apart H1.out.u.e.mem.blk (by decide), H1.out.my.fr.blk.apart hg (by decide), H1.out.my.fr.blk.apart H1.out.bx (by decide)⟩)
    have hu2 := H1.out.u.prog H1.out.bx odd_trier H1.out.hx hp2 hf2
    have hst := step_any hu2.f hy2 (by rw [H1.out.fk]; exact .inr (.inr (.inr (.inr (.inr (.inr (.inl rfl))))))) HK.out.2.1 HK.out.2.2.1 HK.out.2.2.2
    rw [leafS_trier s f H1.out.fk] at hst
    have HST := Lib.hid hst
    have HW2 := Lib.hid (And.intro hp2 (And.intro hb2 (And.intro hf2 hy2)))
    clear hp2 hb2 hf2 hy2 hu2 hst
    go_wp2_with fail
    (with_reducible refine HST.out.mono ?_)
    rintro e W3 ⟨v3, rfl, he3, hfr3, hb3, hf3, hv3⟩
    obtain ⟨hp2, hb2, hf2, hy2⟩ := HW2.out
    obtain ⟨hu3, hx3, hbb3, hms3⟩ := MS.stepped try_keeps H1.out odd_trier ⟨by decide, by decide⟩ (by omega) hp2 hb2.blk hf2 he3 hfr3 hb3 hf3 hv3 hy2
    have hcc := try_keeps.c s f ⟨H1.out.sc.1, by have := H1.out.sc.2; omega⟩
    have HU3 := Lib.hid hu3
    have HX3 := Lib.hid hx3
    have HB3 := Lib.hid hbb3
    have HM3 := Lib.hid hms3
    have HY3 := Lib.hid hb3
    have HCC := Lib.hid (And.intro hcc H1.out.sc)
    clear hp2 hb2 hf2 hy2 hu3 hx3 hbb3 hms3 hcc he3 hfr3 hb3 hf3 hv3 HST HW2 HS H1 O1
    have hz0 := try_keeps.z s f
    have hq0 := try_keeps.q s f
    have HZQ := Lib.hid (And.intro hz0 hq0)
    clear hz0 hq0
    generalize (tryS s f).1 = S' at *
    generalize (tryS s f).2.1 = F' at *
    generalize (tryS s f).2.2 = R' at *
    have ew : wrap64 (s.c + 1) = s.c + 1 := by have := HCC.out; unfold wrap64; omega
    have hgt : decide (s.c + 1 < S'.c) = false := decide_eq_false (by have := HCC.out; omega)
    have HM := Lib.hid (msame_any HU3.out.twin HRS.out)
    cases hdn : R'.dn with
    | true =>
      rw [hdn] at HX3 HY3
      go_wp2_with fail
      (with_reducible refine HM.out.mono ?_)
      rintro e W4 ⟨rfl, hb4⟩
      have U4 := Lib.hid (HU3.out.below hb4)
      have X4 := Lib.hid (show LB W4 x 157 [.int .i64 F'.fa] { F' with ln := 0 } R'.cd R'.vl from ⟨(by have := HX3.out.below hb4; simpa using this), odd_trier.t1, odd_trier.t2, odd_trier.t3, odd_trier.t4⟩)
      have Y4 := Lib.hid (show Blk W4 y 133 (mcells gy 0 cy true R'.cd R'.vl) from by have := HY3.out.below hb4; simpa using this)
      have B4 := Lib.hid (HB3.out.trans (hb4.mono HB3.out.size))
      have c20 : W4.cell? ⟨p, 20, none⟩ = some (.pointer (some ⟨m, 0, none⟩)) := U4.out.e.at20
      clear hb4 HU3 HX3 HY3 HB3 HM
      go_wp2_with fail
      (with_reducible refine (count_any U4.out.e.mem).mono ?_)
      rintro e w1 ⟨rfl, rfl⟩
      clear c20
      go_wp2_with fail
      (with_reducible refine (lresult_any X4.out).mono ?_)
      rintro e w1 ⟨rfl, nd2, rfl⟩
      have U5 := Lib.hid (U4.out.drewN nd2)
      have X5 := Lib.hid (X4.out.drewN nd2)
      have Y5 := Lib.hid (Y4.out.below (below_drewN W4 nd2))
      have B5 := Lib.hid (B4.out.trans ((below_drewN W4 nd2).mono B4.out.size))
      clear U4 X4 Y4 B4
      generalize W4.drewN nd2 = W5 at *
      have y2 : W5.cell? ⟨y, 2, none⟩ = some (.int .i64 R'.cd) := Y5.out.at_ 2
      have y3 : W5.cell? ⟨y, 3, none⟩ = some (.int .i64 R'.vl) := Y5.out.at_ 3
      have HOV := Lib.hid (trier_over X5.out (.pointer (some ⟨p, 0, none⟩)))
      have HM2 := Lib.hid (msame_any U5.out.twin HRS.out)
      clear U5 X5 Y5
      go_wp2_with fail
      (with_reducible refine HOV.out.mono ?_)
      rintro e w1 ⟨rfl, rfl⟩
      go_wp2_with fail
      (with_reducible refine HM2.out.mono ?_)
      rintro e W6 ⟨rfl, hb6⟩
      have B6 := Lib.hid (B5.out.trans (hb6.mono B5.out.size))
      clear hb6
      go_wp2
      go_ret
      exact ⟨rfl, B6.out⟩
    | false =>
      go_wp2_with fail
      (with_reducible refine HM.out.mono ?_)
      rintro e W4 ⟨rfl, hb4⟩
      have M4 := Lib.hid ((HM3.out hdn).below hb4)
      obtain ⟨hz1, hz2⟩ := HZQ.out.1 hdn
      have HOF := Lib.hid (And.intro hz1 hz2)
      clear hz1 hz2 hb4 HU3 HX3 HY3 HB3 HM HM3
      rw [hdn, HOF.out.1, HOF.out.2] at M4
      simp only [Bool.false_eq_true, if_false] at M4
      have c20 : W4.cell? ⟨p, 20, none⟩ = some (.pointer (some ⟨m, 0, none⟩)) := M4.out.u.e.at20
      go_wp2_with fail
      (with_reducible refine (count_any M4.out.u.e.mem).mono ?_)
      rintro e w1 ⟨rfl, rfl⟩
      clear c20
      skip
      have HFN := Lib.hid (show LkOk F' from M4.out.fo)
      clear HCC HZQ HOF
      go_upto_region 16 with fail
      clear ew hgt
      generalize { a with ev := v3 } = a4 at *
      go_cut [128] from 117 to 128 (fun v wx => wx = W4 ∧ ∃ b, v = .bool b ∧ (b = true → n < nn))
      case first =>
        by_cases hnn : n < nn
        · obtain ⟨x0, rfl, hx0, hc0⟩ := (HZ.out.below M4.out.bb).2.2 n hnn
          generalize zs.getD n 0 = z at *
          have hnn2 : (n : Int) < (nn : Int) := by omega
          have hn0 : (0 : Int) ≤ (n : Int) := by omega
          generalize z.tmod 3 = z3 at *
          go_wp2_with fail
          go_meet
          case rel => exact ⟨rfl, _, rfl, fun _ => hnn⟩
        · have hnn2 : decide ((n : Int) < (nn : Int)) = false := decide_eq_false (by omega)
          go_wp2_with fail
          go_meet
          case rel => exact ⟨rfl, false, rfl, fun e => by cases e⟩
      case rest =>
        obtain ⟨rfl, b, rfl, hb⟩ := hcut
        have HBN := Lib.hid hb
        clear hb
        go_upto_if 128 with fail
        go_cut [] from 129 to 141 (fun wx => ∃ s5, MS W0 LkOk 8 157 B p m k g cap hd rv ev q y gy cy pst d es rs s5 F' a4 (C + 2 * n + 2) (T + n) x (lncells F' 0 0 ++ ([.int .i64 F'.fa] : List Value)).toArray wx)
        case first =>
          cases b with
          | false =>
            go_wp2_with fail
            go_meet
            case rel => exact ⟨S', M4.out.up (C' := C + 2 * n + 2) (T' := T + n) (by omega) (by omega)⟩
          | true =>
            have hnn := HBN.out rfl
            obtain ⟨x0, rfl, hx0, hc0⟩ := (HZ.out.below M4.out.bb).2.2 n hnn
            generalize hzz : zs.getD n 0 = z at *
            have HZZ := Lib.hid hzz
            clear hzz
            have hnn2 : (n : Int) < (nn : Int) := by omega
            have hn0 : (0 : Int) ≤ (n : Int) := by omega
            go_wp2_with fail
            have M5 := Lib.hid (M4.out.below (below_drew (Below.refl _ _)))
            have y0 : wc.drew.cell? (x0.add n) = some (.int .i64 z) := hc0
            have HD := Lib.hid (fun (i j : Int) => disturb_any M5.out.u M5.out.sn ⟨M5.out.sc.1, by have := M5.out.sc.2; omega⟩ i j)
            clear hc0
            go_region_held3 (fun w' => w'.cell? (x0.add n) = some (.int .i64 z)) ((first | exact y1 | exact y0 | go_keep))
              ((go_at_call 39
                refine (HD.out _ _).mono ?_
                rintro e W5 ⟨s5, rfl, hu5, hn5, h15, h25, hf5⟩
                have M6 := Lib.hid (M5.out.dist odd_trier hu5 hn5 h15 h25 hf5)
                have y1 : W5.cell? (x0.add n) = some (.int .i64 z) := by rw [← HZZ.out]; exact (HZ.out.below M6.out.bb).cell hnn
                clear hu5 hn5 h15 h25 hf5))
            go_wp2_with fail
            go_meet
            case rel => exact ⟨s5, M6.out.up (C' := C + 2 * n + 2) (T' := T + n) (by omega) (by omega)⟩
        case rest =>
          clear M4
          obtain ⟨s5, hM5⟩ := hcut
          have M5 := Lib.hid hM5
          clear hM5 HBN
          go_upto_region 18 with fail
          go_cut [153] from 142 to 153 (fun v wx => wx = wc ∧ ∃ b, v = .bool b)
          case first =>
            by_cases hnn : n < nn
            · obtain ⟨x0, rfl, hx0, hc0⟩ := (HZ.out.below M5.out.bb).2.2 n hnn
              generalize zs.getD n 0 = z at *
              have hnn2 : (n : Int) < (nn : Int) := by omega
              have hn0 : (0 : Int) ≤ (n : Int) := by omega
              generalize z.tmod 13 = z3 at *
              go_wp2_with fail
              go_meet
              case rel => exact ⟨rfl, _, rfl⟩
            · have hnn2 : decide ((n : Int) < (nn : Int)) = false := decide_eq_false (by omega)
              go_wp2_with fail
              go_meet
              case rel => exact ⟨rfl, false, rfl⟩
          case rest =>
            obtain ⟨rfl, b, rfl⟩ := hcut
            go_upto_if 153 with fail
            go_cut [] from 154 to 165 (fun wx => ∃ a5, MS W0 LkOk 8 157 B p m k g cap hd rv ev q y gy cy pst d es rs s5 F' a5 (C + 2 * n + 2) (T + n + 1) x (lncells F' 0 0 ++ ([.int .i64 F'.fa] : List Value)).toArray wx)
            case first =>
              cases b with
              | false =>
                go_wp2_with fail
                go_meet
                case rel => exact ⟨a4, M5.out.up (by omega) (by omega)⟩
              | true =>
                have c21 : wc.cell? ⟨p, 21, none⟩ = some (.pointer (some ⟨k, 0, none⟩)) := M5.out.u.e.at21
                go_wp2_with fail
                (with_reducible refine (tick_any M5.out.u.e.clk).mono ?_)
                rintro e W6 ⟨rfl, hc6, hf6⟩
                have M7 := Lib.hid (M5.out.tick odd_trier (by omega) hc6 hf6)
                have hu6 := M5.out.u.tick hc6 hf6
                have c17 : W6.cell? ⟨q, 17, none⟩ = some (.int .i64 a4.now) := hu6.f.m.blk.at_ 17
                have f17 := hu6.f.m.blk.free 17
                clear hc6 hf6 hu6 c21
                go_wp2_with fail
                go_meet
                case rel => exact ⟨_, M7.out⟩
            case rest =>
              clear M5
              obtain ⟨a5, hM6⟩ := hcut
              have M6 := Lib.hid hM6
              clear hM6
              by_cases hn2 : n = 2
              · have O6 := Lib.hid (show LB wc x 157 [.int .i64 F'.fa] F' 0 0 from ⟨M6.out.bx, odd_trier.t1, odd_trier.t2, odd_trier.t3, odd_trier.t4⟩)
                have kc := meth_copy_trier x
                have kd := ahead_copy_trier x
                have hn3 : ((n : Int) == 2) = true := by simp; omega
                go_wp2_with fail
                (with_reducible refine (copy_trier O6.out).mono ?_)
                rintro e W7 ⟨rfl, ho7, hb7⟩
                have M7 := Lib.hid (M6.out.below hb7)
                have O7 := Lib.hid ho7
                have hs7 := M6.out.bb.size
                have hz7 := M6.out.hz
                have HSZ := Lib.hid (show B ≤ wc.heap.size by omega)
                clear ho7 hb7 hs7 hz7 O6 M6
                go_wp2_with fail
                go_roundw
                case rel =>
                  have h := M7.out
                  exact ⟨n + 1, wc.heap.size, s5, F', a5, by omega, by go_num, rfl, ⟨h.u, O7.out.blk, h.my, h.sn, h.fo, h.fk, ⟨h.sc.1, by have := h.sc.2; omega⟩, ⟨h.tn.1, by have := h.tn.2; omega⟩, h.bb, HSZ.out, h.hz⟩⟩
                case measure => simp [intOf]; omega
              · have hn3 : ((n : Int) == 2) = false := by simp; omega
                go_wp2_with fail
                go_roundw
                case rel => exact ⟨n + 1, x, s5, F', a5, by omega, by go_num, rfl, M6.out.up (by omega) (by omega)⟩
                case measure => simp [intOf]; omega
end Go.Proofs.YtheimjcgpbmecaaGreat
