/-
  workstealmatch.Match of a machine of package injector (inserter) and of the reference's. (Written by wip/gen_mat16.py.)
-/
import Derived.Test.YtanbjdlaolgepaaGreatMgBQ
import Derived.Test.YtanbjdlaolgepaaGreatMgAU
import Derived.Test.YtanbjdlaolgepaaGreatMgAO
import Derived.Test.YtanbjdlaolgepaaGreatMgBD
import Derived.Test.YtanbjdlaolgepaaGreatMgBL
import Derived.Test.YtanbjdlaolgepaaGreatMgBM
import Derived.Test.YtanbjdlaolgepaaGreatStepL
import Derived.LoopTactic
import Derived.OwnWalk
import Derived.Deep.Cut
import Derived.Deep.CutRange
namespace Go.Proofs.YtanbjdlaolgepaaGreat
open Go Go.RowKit Go.Shelf
set_option linter.unusedSimpArgs false
set_option linter.unusedVariables false

/-- What the loop keeps. -/
def MatR_inserter (W0 : World) (cf : Cfg) (B p m k g cap : Nat) (hd : List Value) (rv : Value) (q y gy cy : Nat) (pst : List Value) (d : Int) (rs : List Rec) (C T : Int) (i xv : Value) (wr : World) : Prop :=
  ∃ (n x : Nat) (s : St) (f : Fra) (a : EnvA) (ev : Value) (es : List Ev), n ≤ 200 ∧ i = .int .i64 n ∧ xv = .iface 110 (.pointer (some ⟨x, 0, none⟩)) ∧ MS W0 InsOk 10 112 B p m k g cap hd rv ev q y gy cy pst d es rs s f a (C + 2 * n) (T + n) x (lncells f 0 0 ++ (ipost f)).toArray wr ∧ s.U ∧ es.length ≤ n ∧ a.c = cf
set_option maxRecDepth 100000 in
set_option maxHeartbeats 16000000 in
theorem match_inserter {W0 w : World} {B p m k g cap : Nat} {hd : List Value} {rv ev : Value} {q y gy cy : Nat} {pst : List Value} {d : Int} {rs : List Rec} {s : St} {f : Fra} {a : EnvA} {C T : Int} {x : Nat} {cf : Cfg}
    (hlay : LayHd hd cf) (hin : CfgIn cf) (hac : a.c = cf) (hsu : s.U) (hpst : pst = []) (h : MS W0 InsOk 10 112 B p m k g cap hd rv ev q y gy cy pst d [] rs s f a C T x (lncells f 0 0 ++ (ipost f)).toArray w) (hC : C ≤ 200000) (hT : T ≤ 100000) (hrs : rs.length ≤ 1000000) {na : Option Addr} {nn nc : Nat} {zs : List Int} (hz : InInts W0 na nn zs) :
    Calls Tryz.prog 12 #[.pointer (some ⟨p, 0, none⟩), .pointer (some ⟨q, 0, none⟩), .iface 110 (.pointer (some ⟨x, 0, none⟩)), .pointer (some ⟨y, 0, none⟩), .slice na nn nc, .int .i64 200] w fun e w' => e = .returned (.bool true) ∧ Below W0.heap.size W0 w' := by
  subst hpst
  have HIN := Lib.hid hin
  clear hin
  have HZ := Lib.hid hz
  have HRS := Lib.hid hrs
  have HLY := Lib.hid hlay
  clear hlay
  have c20 : w.cell? ⟨p, 20, none⟩ = some (.pointer (some ⟨m, 0, none⟩)) := h.u.e.at20
  have c21 : w.cell? ⟨p, 21, none⟩ = some (.pointer (some ⟨k, 0, none⟩)) := h.u.e.at21
  have HST := Lib.hid (show MatR_inserter W0 cf B p m k g cap hd rv q y gy cy [] d rs C T (.int .i64 0) (.iface 110 (.pointer (some ⟨x, 0, none⟩))) w from ⟨0, x, s, f, a, ev, [], by omega, rfl, rfl, h.up (by omega) (by omega), hsu, Nat.le_refl _, hac⟩)
  clear h hz hrs hsu hac
  go_enter Tryz.func12, Tryz.ntmps12
  go_wp2_with fail
  clear c20 c21
  go_loopw [13, 2] (fun i xv wr => MatR_inserter W0 cf B p m k g cap hd rv q y gy cy [] d rs C T i xv wr) (fun i _ _ => 200 - (intOf i).toNat)
  case atStart => exact HST.out
  case round =>
    clear HST
    obtain ⟨n, x, s, f, a, ev, es, hn, rfl, rfl, h, hsu, hes, hac⟩ := hrel
    have H := Lib.hid h
    have HSU := Lib.hid hsu
    have HES := Lib.hid (And.intro hes hn)
    have HAC := Lib.hid hac
    clear h hsu hes hac
    by_cases hlt : n < 200
    case neg =>
      obtain rfl : n = 200 := by omega
      go_wp2
      go_ret
      exact ⟨rfl, H.out.bb⟩
    have HO := Lib.hid (show LB wr x 112 (ipost f) f 0 0 from ⟨H.out.bx, odd_inserter.t1, odd_inserter.t2, odd_inserter.t3, odd_inserter.t4⟩)
    have km := meth_step_inserter x
    have ka := ahead_step_inserter x
    have kr := meth_result_inserter x
    have kb := ahead_result_inserter x
    have hlt2 : (n : Int) < 200 := by omega
    go_wp2_with fail
    (with_reducible refine (lresult_any HO.out).mono ?_)
    rintro e w1 ⟨rfl, nd, rfl⟩
    have H1 := Lib.hid (H.out.below (below_drewN wr nd))
    have O1 := Lib.hid (HO.out.drewN nd)
    clear H HO
    generalize wr.drewN nd = W1 at *
    have c20 : W1.cell? ⟨p, 20, none⟩ = some (.pointer (some ⟨m, 0, none⟩)) := H1.out.u.e.at20
    go_wp2_with fail
    (with_reducible refine (count_any H1.out.u.e.mem).mono ?_)
    rintro e w1 ⟨rfl, rfl⟩
    clear c20
    have HK := Lib.hid H1.out.fo
    have HS := Lib.hid (show Calls Tryz.prog 194 #[.pointer (some ⟨x, 0, none⟩), .pointer (some ⟨p, 0, none⟩)] W1 (IStep B W1 p m k g cap ((insE cf) s es f).1 a.now d hd rv ev ((insE cf) s es f).2.1 x 112 ipost ((insE cf) s es f).2.2.1 ((insE cf) s es f).2.2.2) from inserter_any HIN.out H1.out.u.e HLY.out O1.out H1.out.u.v HK.out)
    have HKP := Lib.hid (show ((insE cf) s es f).1.U ∧ (s.c ≤ ((insE cf) s es f).1.c ∧ ((insE cf) s es f).1.c ≤ s.c + 1) ∧ (((insE cf) s es f).2.2.2.dn = false → InsOk ((insE cf) s es f).2.2.1) ∧ ((insE cf) s es f).2.2.1.kd = f.kd ∧ ((insE cf) s es f).2.1.length ≤ n + 1 from
      ⟨ins_U HSU.out HK.out.u, ins_c ⟨H1.out.sc.1, by have := H1.out.sc.2; omega⟩, ins_ok HSU.out HK.out, ins_kd cf s f, Nat.le_trans (show (insE cf s es f).2.1.length ≤ es.length + 1 from Nat.le_succ _) (Nat.succ_le_succ HES.out.1)⟩)
    go_wp2_with fail
    (with_reducible refine HS.out.mono ?_)
    rintro e W2 ⟨ev2, rfl, hp2, hov2, hat2, hd2, hn2, hf2⟩
    have hu2 := H1.out.u.progE H1.out.bx odd_inserter H1.out.hx hp2 hov2 hat2 hf2
    have hy2 := H1.out.my.frm hf2 (by
      obtain ⟨cur, hg, _⟩ := H1.out.u.e.mem.row.blk
      simp only [List.mem_cons, not_or]
      exact ⟨H1.out.my.blk.apart H1.out.u.e.blk (by decide), H1.out.my.blk.apart H1.out.u.e.mem.blk (by decide), H1.out.my.blk.apart hg (by decide), H1.out.my.blk.apart H1.out.bx (by decide), H1.out.u.v.nin H1.out.my.blk (by decide)⟩) (by
      obtain ⟨cur, hg, _⟩ := H1.out.u.e.mem.row.blk
      simp only [List.mem_cons, not_or]
      exact ⟨H1.out.my.fr.blk.apart H1.out.u.e.blk (by decide), H1.out.my.fr.blk.apart H1.out.u.e.mem.blk (by decide), H1.out.my.fr.blk.apart hg (by decide), H1.out.my.fr.blk.apart H1.out.bx (by decide), H1.out.u.v.nin H1.out.my.fr.blk (by decide)⟩)
    have HST : Hid (Calls Tryz.prog 34 #[.pointer (some ⟨y, 0, none⟩), .pointer (some ⟨q, 0, none⟩)] W2 (Stepped B q y gy cy [] a ((insE cf) s es f).1 ((insE cf) s es f).2.2.1 ((insE cf) s es f).2.2.2 ((insE cf) s es f).2.1 rs W2)) := Lib.hid (by
      have h := step_ins (by rw [HAC.out]; exact HIN.out) hu2.f hy2 H1.out.fk
      rw [HAC.out] at h
      exact h)
    have HW2 := Lib.hid (And.intro hp2 (And.intro hov2 (And.intro hat2 (And.intro hf2 hy2))))
    have HDN := Lib.hid (And.intro hd2 hn2)
    clear hp2 hov2 hat2 hd2 hn2 hf2 hy2 hu2 HS O1
    generalize (insE cf) s es f = Y at *
    obtain ⟨S', es2, F', R'⟩ := Y
    go_wp2_with fail
    (with_reducible refine HST.out.mono ?_)
    rintro e W3 ⟨v3, rfl, he3, hfr3, hb3, hf3, hv3⟩
    obtain ⟨hp2, hov2, hat2, hf2, hy2⟩ := HW2.out
    obtain ⟨hk1, hk2, hk3, hk4, hk5⟩ := HKP.out
    have ew : wrap64 (s.c + 1) = s.c + 1 := by have := H1.out.sc; unfold wrap64; omega
    have hgt : decide (s.c + 1 < S'.c) = false := decide_eq_false (by have : S'.c ≤ s.c + 1 := hk2.2; omega)
    have HUU := Lib.hid (show S'.U from hk1)
    have HLE := Lib.hid (show es2.length ≤ n + 1 from hk5)
    cases hdn : R'.dn with
    | true =>
      obtain ⟨f0, hlb0⟩ := HDN.out.1 hdn
      obtain ⟨hu3, hx3, hbb3, hms3⟩ := H1.out.steppedE odd_inserter ⟨by decide, by decide⟩ (by omega) hp2 hov2 hat2 hlb0.blk hf2 he3 hfr3 hb3 hf3 hv3 hy2 hk1.n hk2 hk3 hk4
      have HU3 := Lib.hid hu3
      have HX3 := Lib.hid hx3
      have HB3 := Lib.hid hbb3
      have HM3 := Lib.hid hms3
      have HY3 := Lib.hid hb3
      have HM := Lib.hid (msame_any HU3.out.twin HRS.out)
      clear hp2 hov2 hat2 hf2 hy2 hu3 hx3 hbb3 hms3 he3 hfr3 hb3 hf3 hv3 HST HW2 H1 HKP HDN hk1 hk2 hk3 hk4 hk5
      rw [hdn] at HY3
      clear hlb0
      go_wp2_with fail
      (with_reducible refine HM.out.mono ?_)
      rintro e W4 ⟨rfl, hb4⟩
      have U4 := Lib.hid (HU3.out.below hb4)
      have X4 := Lib.hid (show LB W4 x 112 (ipost f0) { f0 with ln := 0 } R'.cd R'.vl from ⟨HX3.out.below hb4, odd_inserter.t1, odd_inserter.t2, odd_inserter.t3, odd_inserter.t4⟩)
      have Y4 := Lib.hid (show Blk W4 y 100 (mcells gy 0 cy true R'.cd R'.vl) from by have := HY3.out.below hb4; simpa using this)
      have B4 := Lib.hid (HB3.out.trans (hb4.mono HB3.out.size))
      have c20 : W4.cell? ⟨p, 20, none⟩ = some (.pointer (some ⟨m, 0, none⟩)) := U4.out.e.at20
      clear hb4 HU3 HX3 HY3 HB3 HM
      go_wp2_with fail
      (with_reducible refine (count_any U4.out.e.mem).mono ?_)
      rintro e w1 ⟨rfl, rfl⟩
      clear c20
      go_wp2_with fail
      (with_reducible refine (lresult_any X4.out).mono ?_)
      rintro e w1 ⟨rfl, nd2, rfl⟩
      have U5 := Lib.hid (U4.out.drewN nd2)
      have X5 := Lib.hid (X4.out.drewN nd2)
      have Y5 := Lib.hid (Y4.out.below (below_drewN W4 nd2))
      have B5 := Lib.hid (B4.out.trans ((below_drewN W4 nd2).mono B4.out.size))
      clear U4 X4 Y4 B4
      generalize W4.drewN nd2 = W5 at *
      have y2 : W5.cell? ⟨y, 2, none⟩ = some (.int .i64 R'.cd) := Y5.out.at_ 2
      have y3 : W5.cell? ⟨y, 3, none⟩ = some (.int .i64 R'.vl) := Y5.out.at_ 3
      have HOV := Lib.hid (inserter_over X5.out (.pointer (some ⟨p, 0, none⟩)))
      have HM2 := Lib.hid (msame_any U5.out.twin HRS.out)
      clear U5 X5 Y5
      go_wp2_with fail
      (with_reducible refine HOV.out.mono ?_)
      rintro e w1 ⟨rfl, rfl⟩
      go_wp2_with fail
      (with_reducible refine HM2.out.mono ?_)
      rintro e W6 ⟨rfl, hb6⟩
      have B6 := Lib.hid (B5.out.trans (hb6.mono B5.out.size))
      clear hb6
      go_wp2
      go_ret
      exact ⟨rfl, B6.out⟩
    | false =>
      have hlb0 := HDN.out.2 hdn
      obtain ⟨hu3, hx3, hbb3, hms3⟩ := H1.out.steppedE odd_inserter ⟨by decide, by decide⟩ (by omega) hp2 hov2 hat2 hlb0.blk hf2 he3 hfr3 hb3 hf3 hv3 hy2 hk1.n hk2 hk3 hk4
      have HU3 := Lib.hid hu3
      have HX3 := Lib.hid hx3
      have HB3 := Lib.hid hbb3
      have HM3 := Lib.hid hms3
      have HY3 := Lib.hid hb3
      have HM := Lib.hid (msame_any HU3.out.twin HRS.out)
      clear hp2 hov2 hat2 hf2 hy2 hu3 hx3 hbb3 hms3 he3 hfr3 hb3 hf3 hv3 HST HW2 H1 HKP HDN hk1 hk2 hk3 hk4 hk5
      clear hlb0
      go_wp2_with fail
      (with_reducible refine HM.out.mono ?_)
      rintro e W4 ⟨rfl, hb4⟩
      have M4 := Lib.hid ((HM3.out hdn).below hb4)
      clear hb4 HU3 HX3 HY3 HB3 HM HM3
      have c20 : W4.cell? ⟨p, 20, none⟩ = some (.pointer (some ⟨m, 0, none⟩)) := M4.out.u.e.at20
      go_wp2_with fail
      (with_reducible refine (count_any M4.out.u.e.mem).mono ?_)
      rintro e w1 ⟨rfl, rfl⟩
      clear c20
      skip
      have HFN := Lib.hid (show InsOk F' from M4.out.fo)
      go_upto_region 16 with fail
      clear ew hgt
      obtain ⟨a4, ha4⟩ : ∃ a4, ({ a with ev := v3 } : EnvA) = a4 := ⟨_, rfl⟩
      have HA4 := Lib.hid (show a4.c = cf by rw [← ha4]; exact HAC.out)
      rw [ha4] at M4
      clear ha4
      go_cut [128] from 117 to 128 (fun v wx => wx = W4 ∧ ∃ b, v = .bool b ∧ (b = true → n < nn))
      case first =>
        by_cases hnn : n < nn
        · obtain ⟨x0, rfl, hx0, hc0⟩ := (HZ.out.below M4.out.bb).2.2 n hnn
          generalize zs.getD n 0 = z at *
          have hnn2 : (n : Int) < (nn : Int) := by omega
          have hn0 : (0 : Int) ≤ (n : Int) := by omega
          generalize z.tmod 3 = z3 at *
          go_wp2_with fail
          go_meet
          case rel => exact ⟨rfl, _, rfl, fun _ => hnn⟩
        · have hnn2 : decide ((n : Int) < (nn : Int)) = false := decide_eq_false (by omega)
          go_wp2_with fail
          go_meet
          case rel => exact ⟨rfl, false, rfl, fun e => by cases e⟩
      case rest =>
        obtain ⟨rfl, b, rfl, hb⟩ := hcut
        have HBN := Lib.hid hb
        clear hb
        go_upto_if 128 with fail
        go_cut [] from 129 to 141 (fun wx => ∃ s5, s5.U ∧ MS W0 InsOk 10 112 B p m k g cap hd rv ev2 q y gy cy [] d es2 rs s5 F' a4 (C + 2 * n + 2) (T + n) x (lncells F' 0 0 ++ (ipost F')).toArray wx)
        case first =>
          cases b with
          | false =>
            go_wp2_with fail
            go_meet
            case rel => exact ⟨S', HUU.out, M4.out.up (C' := C + 2 * n + 2) (T' := T + n) (by omega) (by omega)⟩
          | true =>
            have hnn := HBN.out rfl
            obtain ⟨x0, rfl, hx0, hc0⟩ := (HZ.out.below M4.out.bb).2.2 n hnn
            generalize hzz : zs.getD n 0 = z at *
            have HZZ := Lib.hid hzz
            clear hzz
            have hnn2 : (n : Int) < (nn : Int) := by omega
            have hn0 : (0 : Int) ≤ (n : Int) := by omega
            go_wp2_with fail
            have M5 := Lib.hid (M4.out.below (below_drew (Below.refl _ _)))
            have y0 : wc.drew.cell? (x0.add n) = some (.int .i64 z) := hc0
            have HD := Lib.hid (fun (i j : Int) => disturb_x M5.out.u M5.out.sn ⟨M5.out.sc.1, by have := M5.out.sc.2; omega⟩ i j)
            clear hc0
            go_region_held3 (fun w' => w'.cell? (x0.add n) = some (.int .i64 z)) ((first | exact y1 | exact y0 | go_keep))
              ((go_at_call 23
                refine (HD.out _ _).mono ?_
                rintro e W5 ⟨s5, rfl, hu5, hn5, h15, h25, hf5, hU5, _⟩
                have HU5 := Lib.hid (hU5 HUU.out)
                have M6 := Lib.hid (M5.out.dist odd_inserter hu5 hn5 h15 h25 hf5)
                have y1 : W5.cell? (x0.add n) = some (.int .i64 z) := by rw [← HZZ.out]; exact (HZ.out.below M6.out.bb).cell hnn
                clear hu5 hn5 h15 h25 hf5))
            go_wp2_with fail
            go_meet
            case rel => exact ⟨s5, HU5.out, M6.out.up (C' := C + 2 * n + 2) (T' := T + n) (by omega) (by omega)⟩
        case rest =>
          clear M4
          obtain ⟨s5, hu5, hM5⟩ := hcut
          have HU5 := Lib.hid hu5
          clear hu5
          have M5 := Lib.hid hM5
          clear hM5 HBN
          go_upto_region 18 with fail
          go_cut [153] from 142 to 153 (fun v wx => wx = wc ∧ ∃ b, v = .bool b)
          case first =>
            by_cases hnn : n < nn
            · obtain ⟨x0, rfl, hx0, hc0⟩ := (HZ.out.below M5.out.bb).2.2 n hnn
              generalize zs.getD n 0 = z at *
              have hnn2 : (n : Int) < (nn : Int) := by omega
              have hn0 : (0 : Int) ≤ (n : Int) := by omega
              generalize z.tmod 13 = z3 at *
              go_wp2_with fail
              go_meet
              case rel => exact ⟨rfl, _, rfl⟩
            · have hnn2 : decide ((n : Int) < (nn : Int)) = false := decide_eq_false (by omega)
              go_wp2_with fail
              go_meet
              case rel => exact ⟨rfl, false, rfl⟩
          case rest =>
            obtain ⟨rfl, b, rfl⟩ := hcut
            go_upto_if 153 with fail
            go_cut [] from 154 to 165 (fun wx => ∃ a5 : EnvA, a5.c = cf ∧ MS W0 InsOk 10 112 B p m k g cap hd rv ev2 q y gy cy [] d es2 rs s5 F' a5 (C + 2 * n + 2) (T + n + 1) x (lncells F' 0 0 ++ (ipost F')).toArray wx)
            case first =>
              cases b with
              | false =>
                go_wp2_with fail
                go_meet
                case rel => exact ⟨a4, HA4.out, M5.out.up (by omega) (by omega)⟩
              | true =>
                have c21 : wc.cell? ⟨p, 21, none⟩ = some (.pointer (some ⟨k, 0, none⟩)) := M5.out.u.e.at21
                go_wp2_with fail
                (with_reducible refine (tick_any M5.out.u.e.clk).mono ?_)
                rintro e W6 ⟨rfl, hc6, hf6⟩
                have M7 := Lib.hid (M5.out.tick odd_inserter (by omega) hc6 hf6)
                have hu6 := M5.out.u.tick hc6 hf6
                have c17 : W6.cell? ⟨q, 17, none⟩ = some (.int .i64 a4.now) := hu6.f.m.blk.at_ 17
                have f17 := hu6.f.m.blk.free 17
                clear hc6 hf6 hu6 c21
                go_wp2_with fail
                go_meet
                case rel => exact ⟨{ a4 with now := wrap64 (a4.now + 1) }, HA4.out, M7.out⟩
            case rest =>
              clear M5
              obtain ⟨a5, hac5, hM6⟩ := hcut
              have HAC5 := Lib.hid hac5
              clear hac5
              have M6 := Lib.hid hM6
              clear hM6
              by_cases hn2 : n = 2
              · have O6 := Lib.hid (show LB wc x 112 (ipost F') F' 0 0 from ⟨M6.out.bx, odd_inserter.t1, odd_inserter.t2, odd_inserter.t3, odd_inserter.t4⟩)
                have kc := meth_copy_inserter x
                have kd := ahead_copy_inserter x
                have hn3 : ((n : Int) == 2) = true := by simp; omega
                go_wp2_with fail
                (with_reducible refine (copy_inserter O6.out).mono ?_)
                rintro e W7 ⟨rfl, ho7, hb7⟩
                have M7 := Lib.hid (M6.out.below hb7)
                have O7 := Lib.hid ho7
                have hs7 := M6.out.bb.size
                have hz7 := M6.out.hz
                have HSZ := Lib.hid (show B ≤ wc.heap.size by omega)
                clear ho7 hb7 hs7 hz7 O6 M6
                go_wp2_with fail
                go_roundw
                case rel =>
                  have h := M7.out
                  exact ⟨n + 1, wc.heap.size, s5, F', a5, ev2, es2, by omega, by go_num, rfl, ⟨h.u, O7.out.blk, h.my, h.sn, h.fo, h.fk, ⟨h.sc.1, by have := h.sc.2; omega⟩, ⟨h.tn.1, by have := h.tn.2; omega⟩, h.bb, HSZ.out, h.hz⟩, HU5.out, HLE.out, HAC5.out⟩
                case measure => simp [intOf]; omega
              · have hn3 : ((n : Int) == 2) = false := by simp; omega
                go_wp2_with fail
                go_roundw
                case rel => exact ⟨n + 1, x, s5, F', a5, ev2, es2, by omega, by go_num, rfl, M6.out.up (by omega) (by omega), HU5.out, HLE.out, HAC5.out⟩
                case measure => simp [intOf]; omega
end Go.Proofs.YtanbjdlaolgepaaGreat
