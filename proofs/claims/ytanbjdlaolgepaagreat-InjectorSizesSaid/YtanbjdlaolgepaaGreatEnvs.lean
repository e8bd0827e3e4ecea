/-
  workstealmatch.Envs: two equal environments, the state behind a run, some cells changed.
-/
import Derived.Test.YtanbjdlaolgepaaGreatMgAM
import Derived.Test.YtanbjdlaolgepaaGreatMgAT
import Derived.Test.YtanbjdlaolgepaaGreatMgAU
import Derived.Test.YtanbjdlaolgepaaGreatMcN
import Derived.Test.YtanbjdlaolgepaaGreatMgBD
import Derived.Test.YtanbjdlaolgepaaGreatMgAO
import Derived.BigRegion
import Derived.Deep.Cut
import Derived.Deep.CutRange
namespace Go.Proofs.YtanbjdlaolgepaaGreat
open Go Go.RowKit Go.Shelf
set_option linter.unusedSimpArgs false
set_option linter.unusedVariables false

/-- What Envs gives: equal environments of the configuration c. -/
def EnvsG (c : Cfg) (n t : Nat) (T : Int) (w : World) (e : Ending) (w' : World) : Prop :=
  ∃ p m k g hd rv q a s rs d, e = .returned (.tuple #[.pointer (some ⟨p, 0, none⟩), .pointer (some ⟨q, 0, none⟩), .bool true]) ∧ Duo w' w.heap.size p m k g n hd rv nilV q a s s a.now d [] [] rs rs ∧ LayHd hd c ∧ a.c = c ∧ s.U ∧ s.X.length = n ∧ (0 ≤ s.c ∧ s.c ≤ n + 13) ∧ (0 ≤ a.now ∧ a.now ≤ T) ∧ rs.length = t ∧ (∀ r, r ∈ rs → r.ks.length ≤ 100000) ∧ Below w.heap.size w w'

/-- What the loop over the cells keeps. -/
def EnvsR (w2 : World) (p m k g n t : Nat) (hd : List Value) (rv : Value) (q : Nat) (A : EnvA) (X : List Int) (i : Value) (wr : World) : Prop :=
  ∃ (j : Nat) (s : St), j ≤ n ∧ i = .int .i64 j ∧ Duo wr w2.heap.size p m k g n hd rv nilV q A s s 0 0 [] [] (newRs t) (newRs t) ∧ s.X = X.take j ++ List.replicate (n - j) 0 ∧ s.c = j ∧ Below w2.heap.size w2 wr

set_option maxRecDepth 100000 in
set_option maxHeartbeats 16000000 in
theorem envs_any {w : World} {c : Cfg} {pa : Option Addr} {pn pc : Nat} {sa : Option Addr} {sn sc : Nat} {n t kk : Nat} {T : Int} {la : Option Addr} {L lc : Nat} {na : Option Addr} {nn nc : Nat} {zs : List Int} (hck : chk c = 0) (hl : Lists w 0 c pa pn sa sn) (hn : (rCells c).toNat = n) (ht : c.ta.toNat = t) (hkk : c.wo.toNat = kk) (hT : T ≤ 100000) (hz : InInts w na nn zs)
    (hrun : ∀ (W : World) (B x q g : Nat) (rv mv : Value) (ys : List (Nat × Nat × Nat)), w.heap.size ≤ B → Below w.heap.size w W → EnvF B W q (newA c pa pn pc sa sn sc g n rv) (St.new n) [] (newRs t) → EngP W B x q mv ys (engF t kk ++ [fraCl]) → B ≤ x → Calls Tryz.prog 19 #[.pointer (some ⟨x, 0, none⟩), .slice la L lc] W (RanG B x n t T W)) :
    Calls Tryz.prog 7 #[cv c pa pn pc sa sn sc, .slice la L lc, .slice na nn nc] w (EnvsG c n t T w) := by
  have hin := cfgIn_chk hck
  obtain ⟨_, hk2, hk3, hk4⟩ := chk_ok hck
  have hbn : pn ≤ 1000 ∧ sn ≤ 1000 := by
    have e1 := hl.pr.1
    have e2 := hl.su.1
    have := hk2
    simp only [inB, Bool.and_eq_true, decide_eq_true_eq] at this
    omega
  have hX := Blk.made w 28 (cc c pa pn pc sa sn sc)
  have hb1 := below_one w (cbox c pa pn pc sa sn sc)
  have HX := Lib.hid hX
  have HB1 := Lib.hid hb1
  have HC := Lib.hid (And.intro hin (And.intro hck (And.intro hn (And.intro ht (And.intro hbn (fun x (hx : x ∈ c.pr) => Nat.le_trans (chkPs_ok hk3 x hx).1 (by decide : _ ≤ 1000)))))))
  have HL := Lib.hid (fun (U : World) (hU : Below w.heap.size w U) => hl.below hU)
  have HZ := Lib.hid hz
  have HRUN := Lib.hid hrun
  have KE := Lib.hid (fun (U : World) (hU : Below w.heap.size w U) => (hn ▸ ht ▸ hkk ▸ kengine_any (w := U) (pc := pc) (sc := sc) hin (hl.below hU) : Calls Tryz.prog 18 #[cv c pa pn pc sa sn sc] U (KEng c pa pn pc sa sn sc n t kk U)))
  have HT := Lib.hid (And.intro hT (show n ≤ 131072 ∧ t ≤ 1000 by have := hin.cells; have := hin.ta; omega))
  obtain ⟨e0, e1, e2, e3, e4, e5, e6, e7, e8, e9, e10⟩ := eleven hX
  clear hin hk2 hk3 hk4 hbn hX hb1 hl hz hrun hck hn ht hkk hT
  go_enter Tryz.func7, Tryz.ntmps7
  go_wp2_with fail
  (with_reducible refine (KE.out _ HB1.out).mono ?_)
  rintro e w1 ⟨B, x, q0, g0, rv0, mv0, ys0, hB, rfl, he, hp, hx, hb⟩
  have HB2 := Lib.hid (HB1.out.trans (hb.mono HB1.out.size))
  have HR := Lib.hid (HRUN.out w1 B x q0 g0 rv0 mv0 ys0 (Nat.le_trans HB1.out.size hB) HB2.out he hp hx)
  have HX2 := Lib.hid (HX.out.below hb)
  have HBB := Lib.hid (Nat.le_trans HB1.out.size hB)
  have HBB2 := Lib.hid hB
  clear he hp hx hb hB HX HB1 KE HRUN e0 e1 e2 e3 e4 e5 e6 e7 e8 e9 e10
  go_wp2_with fail
  (with_reducible refine HR.out.mono ?_)
  rintro e w2 ⟨q0, a0, s0, es0, rs0, rfl, he, hp, hsx, hsu, hnow, hrs, hks, hb⟩
  have hB3 := HB2.out.trans (hb.mono HBB.out)
  have HB3 := Lib.hid hB3
  have hx3 : Blk w2 w.heap.size 28 (cc c pa pn pc sa sn sc) := HX2.out.of_same (hb.block _ (by have := HBB2.out; have h1 : (w.alloc (cbox c pa pn pc sa sn sc)).heap.size = w.heap.size + 1 := (by simp); omega))
  have HX3 := Lib.hid hx3
  have HQ := Lib.hid (show ∀ U, Below w2.heap.size w2 U → EnvF B U q0 a0 s0 es0 rs0 ∧ EngB U x q0 ∧ Blk U w.heap.size 28 (cc c pa pn pc sa sn sc) from fun U hU => ⟨he.below hU, hp.below hU, hx3.below hU⟩)
  have HS0 := Lib.hid (And.intro hsx (And.intro hsu (And.intro hnow (And.intro hrs hks))))
  obtain ⟨e0, e1, e2, e3, e4, e5, e6, e7, e8, e9, e10⟩ := eleven hx3
  clear he hp hsx hsu hnow hrs hks hb HX2 HBB HBB2 HR HB2 hB3 hx3
  go_wp2_with fail
  (with_reducible refine (rnew8_any HC.out.1 (HL.out _ HB3.out)).mono ?_)
  rintro e w3 ⟨q, g2, rv2, rfl, he, hb⟩
  rw [HC.out.2.2.1, HC.out.2.2.2.1] at he
  have HE3 := Lib.hid he
  have HB4 := Lib.hid hb
  obtain ⟨_, _, hx4⟩ := HQ.out w3 hb
  clear e0 e1 e2 e3 e4 e5 e6 e7 e8 e9 e10
  obtain ⟨e0, e1, e2, e3, e4, e5, e6, e7, e8, e9, e10⟩ := eleven hx4
  clear he hb hx4
  go_wp2_with fail
  (with_reducible refine (pnew_yes (HL.out _ (HB3.out.trans (HB4.out.mono HB3.out.size))) _ _ HC.out.2.1 HC.out.2.2.2.2.1.1 HC.out.2.2.2.2.1.2 HC.out.2.2.2.2.2).mono ?_)
  rintro e w4 ⟨p, m, k, g, ra, rn, rc, ta, tn, tc, rv, rfl, hpe, hr, ho, htt, hb, l1, l2, l3, l4⟩
  rw [HC.out.2.2.1] at hpe
  rw [HC.out.2.2.2.1] at hr
  clear e0 e1 e2 e3 e4 e5 e6 e7 e8 e9 e10
  have HLY := Lib.hid (show LayHd (hdC c ra rn rc ta tn tc 4 (4 + c.he) (4 + c.he + c.cl) (4 + c.he + c.cl + c.wo) (rDeques c) (rDeques c + rAll c) (rCells c) c.le c.de) c from ⟨fun j hj =>
    match j, hj with
    | 0, _ => rfl
    | 1, _ => rfl
    | 2, _ => rfl
    | 3, _ => rfl
    | 4, _ => rfl
    | 5, _ => rfl
    | 6, _ => rfl
    | 7, _ => rfl
    | 8, _ => rfl, fun j hj =>
    match j, hj with
    | 0, _ => rfl
    | 1, _ => rfl
    | 2, _ => rfl
    | 3, _ => rfl
    | 4, _ => rfl
    | 5, _ => rfl
    | 6, _ => rfl
    | 7, _ => rfl
    | 8, _ => rfl⟩)
  have hs3 := HB4.out.size
  have hgl := HE3.out.m.row.lt
  have hgl2 : g2 < w3.heap.size := hgl
  have hd : Duo w4 w2.heap.size p m k g n (hdC c ra rn rc ta tn tc 4 (4 + c.he) (4 + c.he + c.cl) (4 + c.he + c.cl + c.wo) (rDeques c) (rDeques c + rAll c) (rCells c) c.le c.de) rv nilV q (newA c pa pn pc sa sn sc g2 n rv2) (St.new n) (St.new n) 0 0 [] [] (newRs t) (newRs t) :=
    ⟨hpe, World.ownsRow_nil _ _ _ _, hr.low hs3, HE3.out.below hb, fun e => by have e' : g = g2 := e; omega, fun y hy => by simp [Value.ownBlock] at hy, fun y hy hy2 => by
      obtain ⟨ks, _, h2, _⟩ := hr
      obtain ⟨ks2, _, h3, _⟩ := HE3.out.rc
      have := (World.ownsRow.lt h2 y hy).1
      have := (World.ownsRow.lt h3 y hy2).2
      omega, by omega, by omega, by omega, by omega⟩
  have D4 := Lib.hid hd
  have BW4 := Lib.hid (HB4.out.trans (hb.mono hs3))
  clear hpe hr ho htt hb l1 l2 l3 l4 hs3 hgl hgl2 hd HE3 HB4
  generalize hdC c ra rn rc ta tn tc 4 (4 + c.he) (4 + c.he + c.cl) (4 + c.he + c.cl + c.wo) (rDeques c) (rDeques c + rAll c) (rCells c) c.le c.de = hd at *
  obtain ⟨xr, cr, hrv⟩ := D4.out.r.form
  have hlr : (newRs t).length = t := by simp [newRs]
  rw [hlr] at hrv
  subst hrv
  have hln : (St.new n).X.length = n := by simp [St.new]
  have d20 : w4.drew.cell? ⟨p, 20, none⟩ = some (.pointer (some ⟨m, 0, none⟩)) := D4.out.e.at20
  have d21 : w4.drew.cell? ⟨p, 21, none⟩ = some (.pointer (some ⟨k, 0, none⟩)) := D4.out.e.at21
  have d22 : w4.drew.cell? ⟨p, 22, none⟩ = some (.slice xr t cr) := D4.out.e.at22
  have d11 : w4.drew.cell? ⟨q, 11, none⟩ = some (.slice (some ⟨g2, 0, none⟩) n n) := by
    have := D4.out.f.m.blk.at_ 11
    simpa [hln] using this
  have dta : c.ta = (t : Int) := by have h1 := HC.out.1.ta; have h2 := HC.out.2.2.2.1; omega
  have d3 : w4.drew.cell? ⟨w.heap.size, 3, none⟩ = some (.int .i64 (t : Int)) := by
    have h := (HQ.out w4 BW4.out).2.2.at_ 3
    rw [← dta]
    exact h
  have KS := Lib.hid (show Calls Tryz.prog 22 #[.pointer (some ⟨m, 0, none⟩)] w4.drew (fun e V' => e = .returned (.int .i64 n) ∧ w4.drew = V') from hln ▸ msize_any (D4.out.drewN 1).e.mem)
  clear hln hlr dta
  go_wp2_with fail
  go_region_held3 (fun w' => w'.cell? ⟨p, 20, none⟩ = some (.pointer (some ⟨m, 0, none⟩)) ∧ w'.cell? ⟨p, 21, none⟩ = some (.pointer (some ⟨k, 0, none⟩)) ∧ w'.cell? ⟨p, 22, none⟩ = some (.slice xr t cr) ∧ w'.cell? ⟨q, 11, none⟩ = some (.slice (some ⟨g2, 0, none⟩) n n) ∧ w'.cell? ⟨w.heap.size, 3, none⟩ = some (.int .i64 (t : Int))) ((first | exact ⟨d20, d21, d22, d11, d3⟩ | go_keep))
    ((go_at_call 22
      refine KS.out.mono ?_
      rintro e u ⟨rfl, rfl⟩))
  have D5 := Lib.hid (D4.out.drewN 1)
  have BW5 := Lib.hid (below_drew BW4.out)
  clear d20 d21 d22 d11 d3 KS D4 BW4
  go_wp2_with fail
  have HXC := Lib.hid (show ∀ U, Below w2.heap.size w2 U → (U.cell? ⟨x, 0, none⟩ = some (.pointer (some ⟨q0, 0, none⟩)) ∧ U.cell? ⟨q0, 11, none⟩ = some (.slice (some ⟨a0.g, 0, none⟩) n a0.cap) ∧ ∀ j, j < n → U.cell? ⟨a0.g, j, none⟩ = some (.int .u64 (s0.X.getD j 0))) ∧ (U.cell? ⟨q0, 17, none⟩ = some (.int .i64 a0.now) ∧ U.cell? ⟨q0, 18, none⟩ = some (.int .i64 a0.draw) ∧ U.cell? ⟨q0, 19, none⟩ = some a0.rv) from fun U hU => by
    obtain ⟨h1, h2, _⟩ := HQ.out U hU
    have h11 := h1.m.blk.at_ 11
    have hr := h1.m.row
    rw [HS0.out.1] at hr
    refine ⟨⟨h2.at0, ?_, fun j hj => hr.cell hj⟩, h1.m.blk.at_ 17, h1.m.blk.at_ 18, h1.m.blk.at_ 19⟩
    rw [← HS0.out.1]
    exact h11)
  have HLN := Lib.hid (show ∀ s : St, ∀ j, j ≤ n → s.X = s0.X.take j ++ List.replicate (n - j) 0 → s.X.length = n from fun s j hj h => by rw [h]; simp [HS0.out.1]; omega)
  go_loopw [13] (fun i wr => EnvsR w2 p m k g n t hd (.slice xr t cr) q (newA c pa pn pc sa sn sc g2 n rv2) s0.X i wr) (fun i _ => n - (intOf i).toNat)
  case atStart => exact ⟨0, St.new n, by omega, rfl, D5.out, by simp [St.new], rfl, BW5.out⟩
  case round =>
    clear D5 BW5
    obtain ⟨j, s, hj, rfl, hd2, hX, hc, hb⟩ := hrel
    have hlen := HLN.out s j hj hX
    have e11 : wr.cell? ⟨q, 11, none⟩ = some (.slice (some ⟨g2, 0, none⟩) n n) := by
      have := hd2.f.m.blk.at_ 11
      simpa [hlen] using this
    have D := Lib.hid hd2
    have BB := Lib.hid hb
    have HX := Lib.hid (And.intro hX (And.intro hc hlen))
    clear hd2 hb hX hc hlen
    have hn17 : n ≤ 131072 := HT.out.2.1
    by_cases hlt : j < n
    case neg =>
      obtain rfl : j = n := by omega
      have hXX : s.X = s0.X := by
        have := HX.out.1
        rw [Nat.sub_self, List.replicate_zero, List.append_nil, List.take_of_length_le (by rw [HS0.out.1]; exact Nat.le_refl _)] at this
        exact this
      have HN0 := Lib.hid (U_ofX HS0.out.2.1 hXX)
      have D1 := Lib.hid D.out
      have HC0 := Lib.hid (And.intro hXX (And.intro HX.out.2.1 HX.out.2.2))
      clear hXX D HX HLN hn17
      go_wp2_with fail
      clear e11
      go_loopw [14] (fun i wr => EnvsC w2 p m k g j t hd (.slice xr t cr) q (newA c pa pn pc sa sn sc g2 j rv2) i wr) (fun i _ => 14 - (intOf i).toNat)
      case atStart => exact ⟨0, s, by omega, rfl, D1.out, HN0.out, ⟨by rw [HC0.out.2.1]; omega, by rw [HC0.out.2.1]; omega⟩, HC0.out.2.2, BB.out⟩
      case round =>
        clear D1 HN0 HC0 BB
        obtain ⟨i, s, hi, rfl, hd2, hsn, hsc, hsl, hb⟩ := hrel
        have D := Lib.hid hd2
        have BB := Lib.hid hb
        have HS := Lib.hid (And.intro hsn (And.intro hsc hsl))
        clear hd2 hsn hsc hsl hb
        have hnn := HZ.out.2.1
        unfold maxLen at hnn
        have hi0 : (0 : Int) ≤ (i : Int) := by omega
        by_cases hlt : i + 1 < nn ∧ i < 12
        · as_aux_lemma =>
            obtain ⟨hl1, hl2⟩ := hlt
            obtain ⟨xz, rfl, hxl, _⟩ := (HZ.out.below (HB3.out.trans (BB.out.mono HB3.out.size))).2.2 i (by omega)
            obtain ⟨z1, hz1⟩ : ∃ z, zs.getD i 0 = z := ⟨_, rfl⟩
            obtain ⟨z2, hz2⟩ : ∃ z, zs.getD (i + 1) 0 = z := ⟨_, rfl⟩
            have HALL := Lib.hid (show ∀ U, Below w2.heap.size w2 U → U.cell? (xz.add i) = some (.int .i64 z1) ∧ U.cell? ⟨xz.block, xz.off + (i + 1), none⟩ = some (.int .i64 z2) from fun U hU => by
              have h := HZ.out.below (HB3.out.trans (hU.mono HB3.out.size))
              rw [← hz1, ← hz2, show (⟨xz.block, xz.off + (i + 1), none⟩ : Addr) = xz.add (i + 1) by unfold Addr.add; rw [if_neg (by omega)]]
              exact ⟨h.cell (by omega), h.cell hl1⟩)
            have D1 := Lib.hid (D.out.drewN 1)
            obtain ⟨y0, y1⟩ := HALL.out wr.drew (below_drew BB.out)
            have hl3 : (i : Int) + 1 < (nn : Int) := by omega
            have hl4 : (i : Int) < (nn : Int) := by omega
            have hl5 : (i : Int) < 12 := by omega
            have hl6 : (0 : Int) ≤ (i : Int) + 1 := by omega
            have hw : IntKind.i64.wrap ((i : Int) + 1) = (i : Int) + 1 := by rw [IntKind.wrap_i64];  omega
            have HI := Lib.hid (And.intro hl1 hl2)
            have HD := Lib.hid (fun (a b : Int) => disturb_x D1.out HS.out.1.n ⟨HS.out.2.1.1, by have := HS.out.2.1.2; have := HT.out.2.1; omega⟩ a b)
            clear hz1 hz2 hxl
            go_wp2_with fail
            go_region_held3 (fun w' => w'.cell? (xz.add i) = some (.int .i64 z1) ∧ w'.cell? ⟨xz.block, xz.off + (i + 1), none⟩ = some (.int .i64 z2)) ((first | exact ⟨v0, v1⟩ | exact ⟨y0, y1⟩ | go_keep))
              ((go_at_call 23
                refine (HD.out _ _).mono ?_
                rintro e W5 ⟨s5, rfl, hu5, hn5, h15, h25, hf5, hU5, hL5⟩
                have hb5 : Below w2.heap.size w2 W5 := below_of_fr (below_drew BB.out) hf5 (fun y hy => by
                  simp only [List.mem_cons, List.not_mem_nil, or_false] at hy
                  rcases hy with rfl | rfl | rfl | rfl
                  · exact D1.out.bm
                  · exact D1.out.bg
                  · exact D1.out.f.hp
                  · exact D1.out.f.hg)
                obtain ⟨v0, v1⟩ := HALL.out W5 hb5
                have U5 := Lib.hid hu5
                have N5 := Lib.hid (And.intro (hU5 HS.out.1) (And.intro h15 (And.intro h25 hL5)))
                have B5 := Lib.hid hb5
                clear hu5 hn5 h15 h25 hf5 hb5 hU5 hL5))
            clear y0 y1 v0 v1
            go_wp2_with fail
            go_roundw
            case rel =>
              refine ⟨i + 2, s5, by have := HI.out; omega, by go_num, U5.out, N5.out.1, ⟨by have := N5.out.2; have := HS.out.2; omega, by have := N5.out.2; have := HS.out.2; omega⟩, by rw [N5.out.2.2.2]; exact HS.out.2.2, B5.out⟩
            case measure => simp [intOf]; have := HI.out; omega
        · have HNL := Lib.hid hlt
          go_upto_region 13 with fail
          go_cut [123] from 115 to 124 (fun v wx => wx = wr ∧ v = .bool false)
          case first =>
            as_aux_lemma =>
              by_cases h1 : i + 1 < nn
              · have h2 : decide ((i : Int) < 12) = false := decide_eq_false (by have := HNL.out; omega)
                have h3 : (i : Int) + 1 < (nn : Int) := by omega
                go_wp2_with fail
                go_meet
                case rel => exact ⟨rfl, rfl⟩
              · have h3 : decide ((i : Int) + 1 < (nn : Int)) = false := decide_eq_false (by omega)
                go_wp2_with fail
                go_meet
                case rel => exact ⟨rfl, rfl⟩
          case rest =>
          obtain ⟨rfl, rfl⟩ := hcut
          have hn0 : ∃ N : Nat, a0.now = (N : Int) := ⟨a0.now.toNat, by have := HS0.out.2.2.1; omega⟩
          obtain ⟨N, hN⟩ := hn0
          have HN := Lib.hid (And.intro hN (show N ≤ 100000 by have := HS0.out.2.2.1; have := HT.out.1; omega))
          clear hlt hnn
          go_upto_region 16 with fail
          have D1 := Lib.hid (D.out.drewN 1)
          have HQN := Lib.hid (show q ≠ q0 from fun e => by
            have h1 := D.out.f.hp
            have h2 := (HQ.out w2 (Below.refl _ _)).1.m.blk.lt
            omega)
          go_cut [] from 138 to 158 (fun wx => Duo wx w2.heap.size p m k g j hd (.slice xr t cr) nilV q { newA c pa pn pc sa sn sc g2 j rv2 with now := (N : Int), draw := a0.draw } s s 0 0 [] [] (newRs t) (newRs t) ∧ Below w2.heap.size w2 wx)
          case first =>
            as_aux_lemma =>
              obtain ⟨⟨y0, _, _⟩, y17, y18, _⟩ := HXC.out wc.drew (below_drew BB.out)
              rw [HN.out.1] at y17
              have c17 : wc.drew.cell? ⟨q, 17, none⟩ = some (.int .i64 0) := D1.out.f.m.blk.at_ 17
              have c18 : wc.drew.cell? ⟨q, 18, none⟩ = some (.int .i64 0) := D1.out.f.m.blk.at_ 18
              have f17 := D1.out.f.m.blk.free 17
              have f18 := D1.out.f.m.blk.free 18
              change wc.drew.frozen? _ = _ at f17 f18
              have b17 : wc.cell? ⟨q, 17, none⟩ = some (.int .i64 0) := c17
              have b18 : wc.cell? ⟨q, 18, none⟩ = some (.int .i64 0) := c18
              have g17 : wc.frozen? ⟨q, 17, none⟩ = false := f17
              have g18 : wc.frozen? ⟨q, 18, none⟩ = false := f18
              have hq1 := HQN.out
              have hq2 := HQN.out.symm
              go_region
              all_goals
                go_wp2_with fail
                go_meet
                case rel =>
                  refine ⟨(D1.out.rnow (N : Int)).rdraw a0.draw, ?_⟩
                  exact ((below_drew BB.out).setCell (p := ⟨q, 17, none⟩) D1.out.f.hp _).setCell (p := ⟨q, 18, none⟩) D1.out.f.hp _
          case rest =>
          obtain ⟨hd3, hb3⟩ := hcut
          have D2 := Lib.hid hd3
          have B2 := Lib.hid hb3
          clear hd3 hb3 D D1 BB
          go_wp2_with fail
          go_loopw [15] (fun i wr => EnvsT w2 p m k g j t hd (.slice xr t cr) q { newA c pa pn pc sa sn sc g2 j rv2 with now := (N : Int), draw := a0.draw } s N i wr) (fun i _ => N - (intOf i).toNat)
          case atStart => exact ⟨0, by omega, rfl, D2.out, B2.out⟩
          case round =>
            clear D2 B2
            obtain ⟨i2, hi2, rfl, hd3, hb3⟩ := hrel
            have D := Lib.hid hd3
            have BB := Lib.hid hb3
            clear hd3 hb3
            have c17 : wr.cell? ⟨q, 17, none⟩ = some (.int .i64 (N : Int)) := D.out.f.m.blk.at_ 17
            have hN2 : N ≤ 100000 := HN.out.2
            by_cases hlt2 : i2 < N
            · have c21 : wr.cell? ⟨p, 21, none⟩ = some (.pointer (some ⟨k, 0, none⟩)) := D.out.e.at21
              have hlt3 : (i2 : Int) < (N : Int) := by omega
              go_wp2_with fail
              (with_reducible refine (tick_any D.out.e.clk).mono ?_)
              rintro e V1 ⟨rfl, hc1, hf1⟩
              have D1 := Lib.hid (D.out.tick hc1 hf1)
              have B1 := Lib.hid (below_of_fr BB.out hf1 (fun y hy => by simp at hy; subst hy; exact D.out.bk))
              clear hc1 hf1 c21 c17
              go_wp2_with fail
              go_roundw
              case rel =>
                refine ⟨i2 + 1, by omega, by go_num, ?_, B1.out⟩
                have h := D1.out
                rw [show wrap64 ((i2 : Int) + 1) = ((i2 + 1 : Nat) : Int) by unfold wrap64; omega] at h
                exact h
              case measure => simp [intOf]; omega
            · obtain rfl : i2 = N := by omega
              go_upto_region 21 with fail
              clear c17
              have D1 := Lib.hid (D.out.drewN 1)
              have B1 := Lib.hid (below_drew BB.out)
              have d21 : wr.drew.cell? ⟨p, 21, none⟩ = some (.pointer (some ⟨k, 0, none⟩)) := D1.out.e.at21
              have d18 : wr.drew.cell? ⟨q, 18, none⟩ = some (.int .i64 a0.draw) := D1.out.f.m.blk.at_ 18
              clear D BB
              go_region_held3 (fun w' => w'.cell? ⟨p, 21, none⟩ = some (.pointer (some ⟨k, 0, none⟩)) ∧ w'.cell? ⟨q, 18, none⟩ = some (.int .i64 a0.draw)) ((first | exact ⟨x21, x18⟩ | exact ⟨d21, d18⟩ | go_keep))
                ((go_at_call 25
                  refine (set_any D1.out.e.clk _).mono ?_
                  rintro e V1 ⟨rfl, hc1, hf1⟩
                  have D2 := Lib.hid (D1.out.clk hc1 hf1)
                  have B2 := Lib.hid (below_of_fr B1.out hf1 (fun y hy => by simp at hy; subst hy; exact D1.out.bk))
                  have x21 : V1.cell? ⟨p, 21, none⟩ = some (.pointer (some ⟨k, 0, none⟩)) := D2.out.e.at21
                  have x18 : V1.cell? ⟨q, 18, none⟩ = some (.int .i64 a0.draw) := D2.out.f.m.blk.at_ 18
                  clear hc1 hf1))
              clear x21 x18 d21 d18 D1 B1
              go_upto_region 22 with fail
              obtain ⟨xr0, cr0, hrv0⟩ := (HQ.out w2 (Below.refl _ _)).1.rc.form
              rw [HS0.out.2.2.2.1] at hrv0
              have HX9 := Lib.hid (show ∀ U, Below w2.heap.size w2 U → U.cell? ⟨x, 0, none⟩ = some (.pointer (some ⟨q0, 0, none⟩)) ∧ U.cell? ⟨q0, 19, none⟩ = some (.slice xr0 t cr0) from fun U hU => by
                obtain ⟨⟨y0, _, _⟩, _, _, y19⟩ := HXC.out U hU
                rw [hrv0] at y19
                exact ⟨y0, y19⟩)
              have HCR := Lib.hid (show ∀ U, Below w2.heap.size w2 U → Calls Tryz.prog 26 #[.slice xr0 t cr0] U (CopiedR rs0 U) from fun U hU => by
                have h := (HQ.out U hU).1.rc
                rw [hrv0] at h
                exact rcopyrecs_any h (by have h1 := HS0.out.2.2.2.1; have h2 := HT.out.2.2; omega) HS0.out.2.2.2.2)
              clear hrv0
              have D3 := Lib.hid (D2.out.drewN 1)
              have B3 := Lib.hid (below_drew B2.out)
              obtain ⟨y0, y19⟩ := HX9.out V1.drew B3.out
              go_region_held3 (fun w' => w'.cell? ⟨x, 0, none⟩ = some (.pointer (some ⟨q0, 0, none⟩)) ∧ w'.cell? ⟨q0, 19, none⟩ = some (.slice xr0 t cr0)) ((first | exact ⟨t0, t19⟩ | exact ⟨s0', s19⟩ | exact ⟨r0', r19⟩ | exact ⟨u0', u19⟩ | exact ⟨y0, y19⟩ | go_keep))
                (first
                 | (go_at_call 26
                    refine (HCR.out _ BU1.out).mono ?_
                    rintro e U2 ⟨v2, rfl, ho2, hb2⟩
                    obtain ⟨xv2, cv2, hv2⟩ := ho2.form
                    subst hv2
                    have BU2 := Lib.hid (BU1.out.trans (hb2.mono BU1.out.size))
                    have DU2 := Lib.hid (DU1.out.below hb2)
                    have O1 := Lib.hid (OU1.out.1.same (fun k cs tt hk _ => hb2.block k (Array.getElem?_eq_some_iff.1 hk).1))
                    have O2 := Lib.hid ho2
                    obtain ⟨r0', r19⟩ := HX9.out U2 BU2.out
                    have c19 : U2.cell? ⟨q, 19, none⟩ = some rv2 := DU2.out.f.m.blk.at_ 19
                    have f19 := DU2.out.f.m.blk.free 19
                    have BU3 := Lib.hid (BU2.out.setCell (p := ⟨q, 19, none⟩) DU2.out.f.hp (.slice xv1 rs0.length cv1))
                    obtain ⟨s0', s19⟩ := HX9.out _ BU3.out
                    have hpb3 := DU2.out.e.blk.of_same (w' := U2.setCell ⟨q, 19, none⟩ (.slice xv1 rs0.length cv1)) (Below.heap_setCell U2 ⟨q, 19, none⟩ _ p (DU2.out.e.blk.apart DU2.out.f.m.blk (by decide)))
                    have PB3 := Lib.hid hpb3
                    have c22 : (U2.setCell ⟨q, 19, none⟩ (.slice xv1 rs0.length cv1)).cell? ⟨p, 22, none⟩ = some (.slice xr t cr) := by
                      rw [World.cell?_of_block (Below.heap_setCell U2 ⟨q, 19, none⟩ _ p (DU2.out.e.blk.apart DU2.out.f.m.blk (by decide)))]
                      exact DU2.out.e.at22
                    have f22 := hpb3.free 22
                    have BU4 := Lib.hid (BU3.out.setCell (p := ⟨p, 22, none⟩) DU2.out.bp (.slice xv2 rs0.length cv2))
                    obtain ⟨t0, t19⟩ := HX9.out _ BU4.out
                    clear ho2 hb2 hpb3)
                 | (go_at_call 26
                    refine (HCR.out _ B3.out).mono ?_
                    rintro e U1 ⟨v1, rfl, ho1, hb1⟩
                    obtain ⟨xv1, cv1, hv1⟩ := ho1.form
                    subst hv1
                    have BU1 := Lib.hid (B3.out.trans (hb1.mono B3.out.size))
                    have DU1 := Lib.hid (D3.out.below hb1)
                    have OU1 := Lib.hid (And.intro ho1 (show V1.heap.size ≤ U1.heap.size from hb1.size))
                    obtain ⟨u0', u19⟩ := HX9.out U1 BU1.out
                    clear ho1 hb1))
              clear t0 t19 s0' s19 r0' r19 u0' u19 y0 y19 c19 f19 c22 f22
              have hf19 : Fr [q] U2 (U2.setCell ⟨q, 19, none⟩ (.slice xv1 rs0.length cv1)) := (Fr.refl _ _).setCell (by simp) _
              have hb19 : Blk (U2.setCell ⟨q, 19, none⟩ (.slice xv1 rs0.length cv1)) q 53 (ecells { newA c pa pn pc sa sn sc g2 j (.slice xv1 rs0.length cv1) with now := (i2 : Int), draw := a0.draw } s) := by
                have := DU2.out.f.m.blk.put 19 (.slice xv1 rs0.length cv1)
                simpa [ecells] using this
              have hs3 := B3.out.size
              have hr1 : OwnR (U2.setCell ⟨q, 19, none⟩ (.slice xv1 rs0.length cv1)) w2.heap.size (.slice xv1 rs0.length cv1) rs0 := (O1.out.offB DU2.out.f.m.blk (by decide) (by decide) hf19).low hs3
              have hd5 := DU2.out.rset (a' := { newA c pa pn pc sa sn sc g2 j (.slice xv1 rs0.length cv1) with now := (i2 : Int), draw := a0.draw }) hf19 hb19 rfl rfl rfl ⟨rfl, rfl, rfl, rfl, rfl⟩ hr1 (fun y hy hy2 => by
                have h1 := (D3.out.r.own y hy).2
                have h2 := (OU1.out.1.own y hy2).1
                have h3 : V1.drew.heap.size = V1.heap.size := rfl
                have h4 : (V1.drewN 1).heap.size = V1.heap.size := rfl
                omega)
              have hf22 : Fr [p] (U2.setCell ⟨q, 19, none⟩ (.slice xv1 rs0.length cv1)) ((U2.setCell ⟨q, 19, none⟩ (.slice xv1 rs0.length cv1)).setCell ⟨p, 22, none⟩ (.slice xv2 rs0.length cv2)) := (Fr.refl _ _).setCell (by simp) _
              have hb22 := PB3.out.put 22 (.slice xv2 rs0.length cv2)
              rw [hd_set22 DU2.out.e.len] at hb22
              have hr2 : OwnR ((U2.setCell ⟨q, 19, none⟩ (.slice xv1 rs0.length cv1)).setCell ⟨p, 22, none⟩ (.slice xv2 rs0.length cv2)) w2.heap.size (.slice xv2 rs0.length cv2) rs0 :=
                ((O2.out.offB DU2.out.f.m.blk (by decide) (by decide) hf19).offB PB3.out (by decide) (by decide) hf22).low BU1.out.size
              have D5 := Lib.hid (hd5.pset hf22 hb22 hr2 (fun y hy hy2 => by
                have h1 := (O2.out.own y hy).1
                have h2 := (OU1.out.1.own y hy2).2
                omega))
              clear hf19 hb19 hr1 hd5 hf22 hb22 hr2 DU2 DU1 O1 O2 OU1 D2 D3 PB3 hs3
              generalize (U2.setCell ⟨q, 19, none⟩ (.slice xv1 rs0.length cv1)).setCell ⟨p, 22, none⟩ (.slice xv2 rs0.length cv2) = U4 at *
              have HM := Lib.hid (msame_any D5.out.twin (by have h1 := HS0.out.2.2.2.1; have h2 := HT.out.2.2; omega))
              go_wp2_with fail
              (with_reducible refine HM.out.mono ?_)
              rintro e w9 ⟨rfl, hb9⟩
              have D6 := Lib.hid (D5.out.below hb9)
              have B6 := Lib.hid (HB3.out.trans ((BU4.out.trans (hb9.mono BU4.out.size)).mono HB3.out.size))
              clear hb9 D5 HM
              go_wp2
              go_ret3
              refine ⟨p, m, k, g, hd, _, q, _, s, rs0, a0.draw, rfl, D6.out.low HB3.out.size rfl (HL.out w (Below.refl _ _)) B6.out, HLY.out, rfl, HS.out.1, HS.out.2.2, ⟨HS.out.2.1.1, by have := HS.out.2.1.2; omega⟩, ⟨by show (0 : Int) ≤ (i2 : Int); omega, by show (i2 : Int) ≤ T; have h1 := HS0.out.2.2.1.2; rw [HN.out.1] at h1; exact h1⟩, HS0.out.2.2.2.1, HS0.out.2.2.2.2, B6.out⟩
    as_aux_lemma =>
      obtain ⟨b, hbv⟩ : ∃ b, s0.X.getD j 0 = b := ⟨_, rfl⟩
      have HALL := Lib.hid (show ∀ U, Below w2.heap.size w2 U → (U.cell? ⟨x, 0, none⟩ = some (.pointer (some ⟨q0, 0, none⟩)) ∧ U.cell? ⟨q0, 11, none⟩ = some (.slice (some ⟨a0.g, 0, none⟩) n a0.cap) ∧ U.cell? ⟨a0.g, j, none⟩ = some (.int .u64 b)) from fun U hU => by
        obtain ⟨⟨h1, h2, h3⟩, _⟩ := HXC.out U hU
        rw [← hbv]
        exact ⟨h1, h2, h3 j hlt⟩)
      have HBV := Lib.hid hbv
      clear hbv
      have D1 := Lib.hid (D.out.drewN 1)
      obtain ⟨y0, y1, y2⟩ := HALL.out wr.drew (below_drew BB.out)
      have hj0 : (0 : Int) ≤ (j : Int) := by omega
      have hj1 : (j : Int) < (n : Int) := by omega
      go_wp2_with fail
      go_region_held3 (fun w' => w'.cell? ⟨x, 0, none⟩ = some (.pointer (some ⟨q0, 0, none⟩)) ∧ w'.cell? ⟨q0, 11, none⟩ = some (.slice (some ⟨a0.g, 0, none⟩) n a0.cap) ∧ w'.cell? ⟨a0.g, j, none⟩ = some (.int .u64 b)) ((first | exact ⟨z0, z1, z2⟩ | exact ⟨y0, y1, y2⟩ | go_keep))
        ((go_at_call 11
          refine (eacc_store D1.out.f.m (j := j) (by rw [HX.out.2.2]; exact hlt) b 0).mono ?_
          rintro e V2 ⟨rfl, hm, hf⟩
          have hb2 := below_of_fr (below_drew BB.out) hf D1.out.lowR
          obtain ⟨z0, z1, z2⟩ := HALL.out V2 hb2
          have D2 := Lib.hid (D1.out.racc hm hf)
          have B2 := Lib.hid hb2
          clear hm hf hb2))
      clear y0 y1 y2 e11 z0 z1 z2
      have D3 := Lib.hid (D2.out.drewN 1)
      have z20 : V2.drew.cell? ⟨p, 20, none⟩ = some (.pointer (some ⟨m, 0, none⟩)) := D3.out.e.at20
      obtain ⟨z0, z1, z2⟩ := HALL.out V2.drew (below_drew B2.out)
      go_wp2_with fail
      go_region_held3 (fun w' => w'.cell? ⟨x, 0, none⟩ = some (.pointer (some ⟨q0, 0, none⟩)) ∧ w'.cell? ⟨q0, 11, none⟩ = some (.slice (some ⟨a0.g, 0, none⟩) n a0.cap) ∧ w'.cell? ⟨a0.g, j, none⟩ = some (.int .u64 b) ∧ w'.cell? ⟨p, 20, none⟩ = some (.pointer (some ⟨m, 0, none⟩))) ((first | exact ⟨x0, x1, x2, x20⟩ | exact ⟨z0, z1, z2, z20⟩ | go_keep))
        ((go_at_call 9
          refine (store_any D3.out.e.mem _ _).mono ?_
          rintro e V3 ⟨rfl, hm, hf⟩
          have hb3 := below_of_fr (below_drew B2.out) hf D1.out.lowP
          obtain ⟨x0, x1, x2⟩ := HALL.out V3 hb3
          have D4 := Lib.hid (D3.out.pacc hm hf)
          have x20 : V3.cell? ⟨p, 20, none⟩ = some (.pointer (some ⟨m, 0, none⟩)) := D4.out.e.at20
          have B4 := Lib.hid hb3
          clear hm hf hb3))
      clear z0 z1 z2 z20 x0 x1 x2 x20
      have HGO := Lib.hid (show s.go 2 j (fun _ => b) = s.acc 2 j b by
        unfold St.go
        rw [if_pos (show s.has (j : Int) from ⟨by omega, by rw [HX.out.2.2]; omega⟩), Int.toNat_natCast])
      go_wp2_with fail
      go_roundw
      case rel =>
        have hd4 := D4.out
        rw [HGO.out] at hd4
        refine ⟨j + 1, s.acc 2 j b, by omega, by go_num, hd4, ?_, ?_, B4.out⟩
        · show s.X.set j b = _
          rw [HX.out.1, ← HBV.out]
          exact bare_fill s0.X n j HS0.out.1 hlt
        · show wrap64 (s.c + 1) = _
          rw [HX.out.2.1]
          unfold wrap64
          omega
      case measure => simp [intOf]; omega
end Go.Proofs.YtanbjdlaolgepaaGreat
