/-
  The walk of the statement MachineEnvs: it returns true. (Written by wip/gen_mcl.py.)
-/
import Derived.Test.YthiiidkkdlmneaaMcN
import Derived.Test.YthiiidkkdlmneaaMatchS
import Derived.Test.YthiiidkkdlmneaaNew8
import Derived.Test.YthiiidkkdlmneaaCfREq
import Derived.Test.YthiiidkkdlmneaaCfChkC
import Derived.Test.YthiiidkkdlmneaaMgBJ
import Derived.Test.YthiiidkkdlmneaaMgBK
namespace Go.Proofs.Ythiiidkkdlmneaa
open Go Go.RowKit Go.Shelf
set_option linter.unusedSimpArgs false
set_option linter.unusedVariables false

theorem row_low {w : World} {base base' : Nat} {t : TypeId} {s : Nat} {v : Value} {n : Nat} {vs : List Value} (h : w.ownsRow base t s v n vs) (hb : base' ≤ base) : w.ownsRow base' t s v n vs := by
  refine ⟨h.1, ?_⟩
  rcases h.2 with h4 | ⟨g, cap, cur, rfl, h4, rest⟩
  · exact .inl h4
  · exact .inr ⟨g, cap, cur, rfl, Nat.le_trans hb h4, rest⟩
theorem OwnR.low {w : World} {base base' : Nat} {v : Value} {l : List Rec} (h : OwnR w base v l) (hb : base' ≤ base) : OwnR w base' v l := by
  obtain ⟨ks, h1, h2, h3⟩ := h
  exact ⟨ks, h1, row_low h2 hb, fun i hi => row_low (h3 i hi) hb⟩
/-- The same environment, with less below it. -/
theorem EnvF.low {B B0 : Nat} {w : World} {p : Nat} {a : EnvA} {s : St} {es : List Ev} {rs : List Rec} (h : EnvF B w p a s es rs) (hb : B0 ≤ B) {W0 : World} (h0 : W0.heap.size = B0) (hl : Lists W0 0 a.c a.pa a.pn a.sa a.sn) (hw : Below B0 W0 w) : EnvF B0 w p a s es rs :=
  ⟨h.m, row_low h.ev hb, h.rc.low hb, ⟨W0, h0, hl, hw⟩, Nat.le_trans hb h.hp, Nat.le_trans hb h.hg⟩

/-- New, whatever the configuration: the error is that of Check. -/
theorem pnew_code {w : World} {B : Nat} {c : Cfg} {pa : Option Addr} {pn : Nat} {sa : Option Addr} {sn : Nat} (h : Lists w B c pa pn sa sn) (pc sc : Nat) :
    Calls Try.prog 8 #[cv c pa pn pc sa sn sc] w fun e w' => ∃ v, e = .returned (.tuple #[v, .int .i64 (chk c)]) ∧ Below w.heap.size w w' := by
  by_cases hc : chk c = 0
  · obtain ⟨_, h2, h3, h4⟩ := chk_ok hc
    have e1 := h.pr.1
    have e2 := h.su.1
    refine (pnew_yes h pc sc hc ?_ ?_ ?_).mono ?_
    · have := h2
      simp only [inB, Bool.and_eq_true, decide_eq_true_eq] at this
      omega
    · omega
    · exact fun x hx => Nat.le_trans (chkPs_ok h3 x hx).1 (by decide)
    · rintro e w' ⟨p, m, k, g, qa, qn, qc, ta, tn, tc, rv, rfl, _, _, _, _, hb, _⟩
      rw [hc]
      exact ⟨_, rfl, hb⟩
  · refine (pnew_no h pc sc hc).mono ?_
    rintro e w' ⟨rfl, hb⟩
    exact ⟨_, rfl, hb⟩

/-- The cells that the first comparison loads. -/
def EnvC8 (c : Cfg) (p m k b : Nat) (qa : Option Addr) (qn qc : Nat) (ta : Option Addr) (tn tc : Nat) (pa : Option Addr) (pn pc : Nat) (sa : Option Addr) (sn sc : Nat) (l0 l1 l2 l3 l4 l5 l6 l7 l8 : Int) (w' : World) : Prop :=
  w'.cell? ⟨p, 0, none⟩ = some (.int .i64 c.wo) ∧ w'.cell? ⟨p, 1, none⟩ = some (.int .i64 c.le) ∧ w'.cell? ⟨p, 2, none⟩ = some (.int .i64 c.cl) ∧ w'.cell? ⟨p, 3, none⟩ = some (.int .i64 c.ta) ∧ w'.cell? ⟨p, 4, none⟩ = some (.int .i64 c.de) ∧ w'.cell? ⟨p, 5, none⟩ = some (.int .i64 c.he) ∧ w'.cell? ⟨p, 6, none⟩ = some (.int .i64 c.ba) ∧ w'.cell? ⟨p, 7, none⟩ = some (.int .i64 c.ag) ∧ w'.cell? ⟨p, 8, none⟩ = some (.int .i64 c.pa) ∧ w'.cell? ⟨p, 9, none⟩ = some (.slice qa qn qc) ∧ w'.cell? ⟨p, 10, none⟩ = some (.slice ta tn tc) ∧ w'.cell? ⟨p, 11, none⟩ = some (.int .i64 l0) ∧ w'.cell? ⟨p, 12, none⟩ = some (.int .i64 l1) ∧ w'.cell? ⟨p, 13, none⟩ = some (.int .i64 l2) ∧ w'.cell? ⟨p, 14, none⟩ = some (.int .i64 l3) ∧ w'.cell? ⟨p, 15, none⟩ = some (.int .i64 l4) ∧ w'.cell? ⟨p, 16, none⟩ = some (.int .i64 l5) ∧ w'.cell? ⟨p, 17, none⟩ = some (.int .i64 l6) ∧ w'.cell? ⟨p, 18, none⟩ = some (.int .i64 l7) ∧ w'.cell? ⟨p, 19, none⟩ = some (.int .i64 l8) ∧ w'.cell? ⟨p, 20, none⟩ = some (.pointer (some ⟨m, 0, none⟩)) ∧ w'.cell? ⟨p, 21, none⟩ = some (.pointer (some ⟨k, 0, none⟩)) ∧ w'.cell? ⟨b, 0, none⟩ = some (.int .i64 c.wo) ∧ w'.cell? ⟨b, 1, none⟩ = some (.int .i64 c.le) ∧ w'.cell? ⟨b, 2, none⟩ = some (.int .i64 c.cl) ∧ w'.cell? ⟨b, 3, none⟩ = some (.int .i64 c.ta) ∧ w'.cell? ⟨b, 4, none⟩ = some (.int .i64 c.de) ∧ w'.cell? ⟨b, 5, none⟩ = some (.int .i64 c.he) ∧ w'.cell? ⟨b, 6, none⟩ = some (.int .i64 c.ba) ∧ w'.cell? ⟨b, 7, none⟩ = some (.int .i64 c.ag) ∧ w'.cell? ⟨b, 8, none⟩ = some (.int .i64 c.pa) ∧ w'.cell? ⟨b, 9, none⟩ = some (.slice pa pn pc) ∧ w'.cell? ⟨b, 10, none⟩ = some (.slice sa sn sc)

theorem envC8 {w : World} {c : Cfg} {p m k g b cap : Nat} {s : St} {t d : Int} {qa : Option Addr} {qn qc : Nat} {ta : Option Addr} {tn tc : Nat} {pa : Option Addr} {pn pc : Nat} {sa : Option Addr} {sn sc : Nat} {l0 l1 l2 l3 l4 l5 l6 l7 l8 : Int} {rv ev : Value}
    (h : PE w p m k g cap s t d (hdC c qa qn qc ta tn tc l0 l1 l2 l3 l4 l5 l6 l7 l8) rv ev) (hb : Blk w b 26 (cc c pa pn pc sa sn sc)) : EnvC8 c p m k b qa qn qc ta tn tc pa pn pc sa sn sc l0 l1 l2 l3 l4 l5 l6 l7 l8 w :=
  ⟨h.blk.at_ 0, h.blk.at_ 1, h.blk.at_ 2, h.blk.at_ 3, h.blk.at_ 4, h.blk.at_ 5, h.blk.at_ 6, h.blk.at_ 7, h.blk.at_ 8, h.blk.at_ 9, h.blk.at_ 10, h.blk.at_ 11, h.blk.at_ 12, h.blk.at_ 13, h.blk.at_ 14, h.blk.at_ 15, h.blk.at_ 16, h.blk.at_ 17, h.blk.at_ 18, h.blk.at_ 19, h.at20, h.at21, hb.at_ 0, hb.at_ 1, hb.at_ 2, hb.at_ 3, hb.at_ 4, hb.at_ 5, hb.at_ 6, hb.at_ 7, hb.at_ 8, hb.at_ 9, hb.at_ 10⟩


set_option maxRecDepth 100000 in
set_option maxHeartbeats 16000000 in
theorem envs_law (a : Option Addr) (L c' : Nat) (zs : List Int) (c : Cfg) (pa : Option Addr) (pn pc : Nat) (sa : Option Addr) (sn sc : Nat) (z : Int) (w : World) (h : InB w w.heap.size a L zs) (hI : Lists w 0 c pa pn sa sn) :
    Calls Try.prog 3 #[.slice a L c', cv c pa pn pc sa sn sc, .int .i64 z] w fun e w' => e = .returned (.bool true) ∧ Below w.heap.size w w' := by
  have B0 := Lib.hid (below_one w (cbox c pa pn pc sa sn sc))
  have Y0 := Lib.hid (Blk.made w 26 (cc c pa pn pc sa sn sc))
  have I0 := Lib.hid (hI.below B0.out)
  have J0 := Lib.hid (h.up B0.out)
  obtain ⟨e0, e1, e2, e3, e4, e5, e6, e7, e8, e9, e10⟩ := eleven Y0.out
  clear h hI
  obtain ⟨sb, hsb⟩ : ∃ b, decide ((L : Int) ≤ 400) = b := ⟨_, rfl⟩
  have HSB := Lib.hid hsb
  clear hsb
  have hcase : (pn : Int) > 50 ∨ (¬ (pn : Int) > 50 ∧ (sn : Int) > 100) ∨ (¬ (pn : Int) > 50 ∧ ¬ (sn : Int) > 100) := by omega
  cases sb with
  | false =>
    go_enter Try.func3, Try.ntmps3
    go_wp2_with fail
    (with_reducible refine (short_nil _ _ _).mono ?_)
    rintro e w0 ⟨rfl, rfl⟩
    rw [HSB.out]
    go_wp2
    go_ret
    exact ⟨rfl, B0.out⟩
  | true =>
  rcases hcase with hp | ⟨hp, hs⟩ | ⟨hp, hs⟩
  · go_enter Try.func3, Try.ntmps3
    go_wp2_with fail
    (with_reducible refine (short_nil _ _ _).mono ?_)
    rintro e w0 ⟨rfl, rfl⟩
    rw [HSB.out]
    go_wp2
    go_ret
    exact ⟨rfl, B0.out⟩
  · go_enter Try.func3, Try.ntmps3
    go_wp2_with fail
    (with_reducible refine (short_nil _ _ _).mono ?_)
    rintro e w0 ⟨rfl, rfl⟩
    rw [HSB.out]
    go_wp2
    go_ret
    exact ⟨rfl, B0.out⟩
  go_enter Try.func3, Try.ntmps3
  go_wp2_with fail
  (with_reducible refine (short_nil _ _ _).mono ?_)
  rintro e w0 ⟨rfl, rfl⟩
  rw [HSB.out]
  go_wp2_with fail
  generalize w.alloc (cbox c pa pn pc sa sn sc) = W0 at *
  clear e0 e1 e2 e3 e4 e5 e6 e7 e8 e9 e10 hp hs
  (with_reducible refine (config_any J0.out c').mono ?_)
  rintro e w1 ⟨v, rfl, hcfg, hb⟩
  obtain ⟨d, hcd⟩ : ∃ d, decC (strm zs) = d := ⟨_, rfl⟩
  rw [hcd] at hcfg
  have hck := chk_dec (strm zs)
  rw [hcd] at hck
  have HCK := Lib.hid hck
  have HIN := Lib.hid (cfgIn_chk hck)
  obtain ⟨qa, qn, qc, ua, un, uc, rfl, hl⟩ := hcfg.isCfg
  have hb1 := hb.alloc hb.size (.cells (cc d qa qn qc ua un uc) 26)
  have H1 := Lib.hid ((hl.alloc (.cells (cc d qa qn qc ua un uc) 26)).mono (Nat.zero_le _))
  have X1 := Lib.hid (Blk.made w1 26 (cc d qa qn qc ua un uc))
  have B1 := Lib.hid (B0.out.trans (hb1.mono B0.out.size))
  have Y1 := Lib.hid (Y0.out.below hb1)
  have I1 := Lib.hid (I0.out.below hb1)
  clear hl hb hb1 hcd hck hcfg B0 Y0 I0 J0
  go_wp2_with fail
  generalize w1.alloc (.cells (cc d qa qn qc ua un uc) 26) = W at *
  generalize w1.heap.size = b at *
  obtain ⟨_, hk2, hk3, hk4⟩ := chk_ok HCK.out
  have hbn : qn ≤ 1000 ∧ un ≤ 1000 := by
    have e1 := H1.out.pr.1
    have e2 := H1.out.su.1
    have := hk2
    simp only [inB, Bool.and_eq_true, decide_eq_true_eq] at this
    omega
  (with_reducible refine (pnew_yes H1.out _ _ HCK.out hbn.1 hbn.2 (fun x hx => Nat.le_trans (chkPs_ok hk3 x hx).1 (by decide))).mono ?_)
  rintro e w2 ⟨p, m, k, g, ra, rn, rc, ta, tn, tc, rv, rfl, hp, hr, ho, ht, hb, l1, l2, l3, l4⟩
  clear hk2 hk3 hk4 hbn
  have hli : Lists w2 0 d ra rn ta tn := by
    obtain ⟨_, _, e1, i1, _⟩ := ho.form
    obtain ⟨_, _, e2, i2, _⟩ := ht.form
    cases e1
    cases e2
    exact ⟨i1.mono (Nat.zero_le _), i2.mono (Nat.zero_le _)⟩
  obtain ⟨n, hn⟩ : ∃ n : Nat, (rCells d).toNat = n := ⟨_, rfl⟩
  have hn2 : rCells d = (n : Int) := by have := HIN.out.cells; omega
  obtain ⟨t, ht2⟩ : ∃ t : Nat, d.ta.toNat = t := ⟨_, rfl⟩
  have htm : t ≤ 1000000 := by have := HIN.out.ta; omega
  rw [hn] at hp
  rw [ht2] at hr
  have HNT := Lib.hid (And.intro hn (And.intro hn2 (And.intro ht2 htm)))
  have E2 := Lib.hid hp
  have R2 := Lib.hid hr
  have LI2 := Lib.hid hli
  have X2 := Lib.hid (X1.out.below hb)
  have Y2 := Lib.hid (Y1.out.below hb)
  have I2 := Lib.hid (I1.out.below hb)
  have H2 := Lib.hid (H1.out)
  have HBW := Lib.hid hb
  have B2 := Lib.hid (B1.out.trans (hb.mono B1.out.size))
  have HLE := Lib.hid (And.intro l1 (And.intro l2 (And.intro l3 l4)))
  clear hp hr ho ht hb l1 l2 l3 l4 hli hn hn2 ht2 htm H1 X1 B1 Y1 I1
  have HC := Lib.hid (show ∀ V : World, Below w2.heap.size w2 V → EnvC8 d p m k b ra rn rc ta tn tc qa qn qc ua un uc 4 (4 + d.he) (4 + d.he + d.cl) (4 + d.he + d.cl + d.wo) (rDeques d) (rDeques d + rAll d) (rCells d) d.le d.de V from fun V hV => envC8 (E2.out.below hV) (X2.out.below hV))
  have K1 := Lib.hid (show ∀ V : World, Below w2.heap.size w2 V → Calls Try.prog 9 #[] V (fun e V' => e = .returned (.bool true) ∧ Below w2.heap.size w2 V') by
    intro V hV
    refine (awake_any V).mono ?_
    rintro e V' ⟨rfl, hb⟩
    exact ⟨rfl, hV.trans (hb.mono hV.size)⟩)
  have K2 := Lib.hid (show ∀ V : World, Below w2.heap.size w2 V → Calls Try.prog 11 #[cv d qa qn qc ua un uc] V (fun e V' => ∃ p2 B a2, e = .returned (.pointer (some ⟨p2, 0, none⟩)) ∧ a2.now = 0 ∧ (∀ U, Below V'.heap.size V' U → Twin U B p m k g n (hdC d ra rn rc ta tn tc 4 (4 + d.he) (4 + d.he + d.cl) (4 + d.he + d.cl + d.wo) (rDeques d) (rDeques d + rAll d) (rCells d) d.le d.de) rv (.slice none 0 0) p2 a2 (St.new n) 0 [] (newRs t)) ∧ Below w2.heap.size w2 V') by
    intro V hV
    have hV2 := HBW.out.trans (hV.mono HBW.out.size)
    refine (rnew8_any (w := V) (pc := qc) (sc := uc) HIN.out (H2.out.below hV2)).mono ?_
    rintro e V' ⟨p2, g2, rv2, rfl, he, hb⟩
    rw [HNT.out.1, HNT.out.2.2.1] at he
    have hV3 := hV2.trans (hb.mono hV2.size)
    refine ⟨p2, W.heap.size, newA d qa qn qc ua un uc g2 n rv2, rfl, rfl, fun U hU => ?_, hV.trans (hb.mono hV.size)⟩
    have hwU : Below w2.heap.size w2 U := (hV.trans (hb.mono hV.size)).trans (hU.mono (hV.trans (hb.mono hV.size)).size)
    refine ⟨E2.out.below hwU, OwnE.nil _ _, R2.out.same (fun _ _ _ hk _ => hwU.block _ (Array.getElem?_eq_some_iff.1 hk).1), ?_⟩
    exact (he.low hV2.size (W0 := W) rfl H2.out hV3).below hU)
  have K3 := Lib.hid (show ∀ (V : World) (p2 B : Nat) (a2 : EnvA), a2.now = 0 → Below w2.heap.size w2 V → Twin V B p m k g n (hdC d ra rn rc ta tn tc 4 (4 + d.he) (4 + d.he + d.cl) (4 + d.he + d.cl + d.wo) (rDeques d) (rDeques d + rAll d) (rCells d) d.le d.de) rv (.slice none 0 0) p2 a2 (St.new n) 0 [] (newRs t) → Calls Try.prog 10 #[.pointer (some ⟨p, 0, none⟩), .pointer (some ⟨p2, 0, none⟩)] V (fun e V' => e = .returned (.bool true) ∧ Below w2.heap.size w2 V') by
    intro V p2 B a2 ha hV hT
    refine (msame_any hT (by simp [newRs]; exact HNT.out.2.2.2)).mono ?_
    rintro e V' ⟨rfl, hb⟩
    exact ⟨rfl, hV.trans (hb.mono hV.size)⟩)
  have K4 := Lib.hid (show ∀ V : World, Below w2.heap.size w2 V → Calls Try.prog 12 #[cv d ra rn rc ta tn tc, cv d qa qn qc ua un uc] V (fun e V' => e = .returned (.bool true) ∧ Below w2.heap.size w2 V') by
    intro V hV
    refine (requal_any (LI2.out.below hV) (H2.out.below (HBW.out.trans (hV.mono HBW.out.size))) rc tc qc uc).mono ?_
    rintro e V' ⟨rfl, hb⟩
    rw [decide_eq_true rfl]
    exact ⟨rfl, hV.trans (hb.mono hV.size)⟩)
  have K5 := Lib.hid (show ∀ V : World, Below w2.heap.size w2 V → Calls Try.prog 13 #[.agg #[.int .i64 4, .int .i64 (4 + d.he), .int .i64 (4 + d.he + d.cl), .int .i64 (4 + d.he + d.cl + d.wo), .int .i64 (rDeques d), .int .i64 (rDeques d + rAll d), .int .i64 (rCells d), .int .i64 d.le, .int .i64 d.de]] V (fun e V' => e = .returned (.int .i64 (n : Int)) ∧ Below w2.heap.size w2 V') by
    intro V hV
    refine (lcells_any (w := V) (c := d)).mono ?_
    rintro e V' ⟨rfl, hb⟩
    rw [HNT.out.2.1]
    exact ⟨rfl, hV.trans (hb.mono hV.size)⟩)
  have K6 := Lib.hid (show ∀ V : World, Below w2.heap.size w2 V → Calls Try.prog 14 #[.pointer (some ⟨m, 0, none⟩)] V (fun e V' => e = .returned (.int .i64 (n : Int)) ∧ Below w2.heap.size w2 V') by
    intro V hV
    refine (msize_any (E2.out.below hV).mem).mono ?_
    rintro e V' ⟨rfl, rfl⟩
    rw [show (St.new n).X.length = n by simp [St.new]]
    exact ⟨rfl, hV⟩)
  have HY := Lib.hid (fun (V : World) (hV : Below w2.heap.size w2 V) => And.intro (Y2.out.below hV) (And.intro (I2.out.below hV) (B2.out.trans (hV.mono B2.out.size))))
  clear E2 R2 LI2 X2 Y2 I2 H2 HBW B2 HLE HNT HCK HIN
  generalize rDeques d + rAll d = x5 at *
  generalize rDeques d = x4 at *
  generalize rCells d = x6 at *
  generalize 4 + d.he + d.cl + d.wo = x3 at *
  generalize 4 + d.he + d.cl = x2 at *
  generalize 4 + d.he = x1 at *
  have hd0 : Below w2.heap.size w2 w2.drew := below_drew (Below.refl _ _)
  have c0 := HC.out w2.drew hd0
  unfold EnvC8 at c0
  go_wp2_with fail
  go_region_held3 (fun w' => w'.cell? ⟨p, 0, none⟩ = some (.int .i64 d.wo) ∧ w'.cell? ⟨p, 1, none⟩ = some (.int .i64 d.le) ∧ w'.cell? ⟨p, 2, none⟩ = some (.int .i64 d.cl) ∧ w'.cell? ⟨p, 3, none⟩ = some (.int .i64 d.ta) ∧ w'.cell? ⟨p, 4, none⟩ = some (.int .i64 d.de) ∧ w'.cell? ⟨p, 5, none⟩ = some (.int .i64 d.he) ∧ w'.cell? ⟨p, 6, none⟩ = some (.int .i64 d.ba) ∧ w'.cell? ⟨p, 7, none⟩ = some (.int .i64 d.ag) ∧ w'.cell? ⟨p, 8, none⟩ = some (.int .i64 d.pa) ∧ w'.cell? ⟨p, 9, none⟩ = some (.slice ra rn rc) ∧ w'.cell? ⟨p, 10, none⟩ = some (.slice ta tn tc) ∧ w'.cell? ⟨p, 11, none⟩ = some (.int .i64 4) ∧ w'.cell? ⟨p, 12, none⟩ = some (.int .i64 x1) ∧ w'.cell? ⟨p, 13, none⟩ = some (.int .i64 x2) ∧ w'.cell? ⟨p, 14, none⟩ = some (.int .i64 x3) ∧ w'.cell? ⟨p, 15, none⟩ = some (.int .i64 x4) ∧ w'.cell? ⟨p, 16, none⟩ = some (.int .i64 x5) ∧ w'.cell? ⟨p, 17, none⟩ = some (.int .i64 x6) ∧ w'.cell? ⟨p, 18, none⟩ = some (.int .i64 d.le) ∧ w'.cell? ⟨p, 19, none⟩ = some (.int .i64 d.de) ∧ w'.cell? ⟨p, 20, none⟩ = some (.pointer (some ⟨m, 0, none⟩)) ∧ w'.cell? ⟨p, 21, none⟩ = some (.pointer (some ⟨k, 0, none⟩)) ∧ w'.cell? ⟨b, 0, none⟩ = some (.int .i64 d.wo) ∧ w'.cell? ⟨b, 1, none⟩ = some (.int .i64 d.le) ∧ w'.cell? ⟨b, 2, none⟩ = some (.int .i64 d.cl) ∧ w'.cell? ⟨b, 3, none⟩ = some (.int .i64 d.ta) ∧ w'.cell? ⟨b, 4, none⟩ = some (.int .i64 d.de) ∧ w'.cell? ⟨b, 5, none⟩ = some (.int .i64 d.he) ∧ w'.cell? ⟨b, 6, none⟩ = some (.int .i64 d.ba) ∧ w'.cell? ⟨b, 7, none⟩ = some (.int .i64 d.ag) ∧ w'.cell? ⟨b, 8, none⟩ = some (.int .i64 d.pa) ∧ w'.cell? ⟨b, 9, none⟩ = some (.slice qa qn qc) ∧ w'.cell? ⟨b, 10, none⟩ = some (.slice ua un uc)) ((first | exact c6 | exact c5 | exact c4 | exact c3 | exact c2 | exact c1 | exact c0 | go_keep))
    (first
     | (go_at_call 9
        refine (K1.out _ hd0).mono ?_
        rintro e U1 ⟨rfl, hd1⟩
        have c1 := HC.out U1 hd1
        unfold EnvC8 at c1)
     | (go_at_call 11
        refine (K2.out _ hd1).mono ?_
        rintro e U2 ⟨p2, B, a2, rfl, ha2, ht2, hd2⟩
        have c2 := HC.out U2 hd2
        unfold EnvC8 at c2)
     | (go_at_call 10
        refine (K3.out _ _ _ _ ha2 hd2 (ht2 _ (Below.refl _ _))).mono ?_
        rintro e U3 ⟨rfl, hd3⟩
        have c3 := HC.out U3 hd3
        unfold EnvC8 at c3)
     | (go_at_call 12
        refine (K4.out _ hd3).mono ?_
        rintro e U4 ⟨rfl, hd4⟩
        have c4 := HC.out U4 hd4
        unfold EnvC8 at c4)
     | (go_at_call 13
        refine (K5.out _ hd4).mono ?_
        rintro e U5 ⟨rfl, hd5⟩
        have c5 := HC.out U5 hd5
        unfold EnvC8 at c5)
     | (go_at_call 14
        refine (K6.out _ hd5).mono ?_
        rintro e U6 ⟨rfl, hd6⟩
        have c6 := HC.out U6 hd6
        unfold EnvC8 at c6))
  clear c0 c1 c2 c3 c4 c5 c6 HC K1 K2 K3 K4 K5 K6 hd0 hd1 hd2 hd3 hd4 hd5 ha2 ht2
  obtain ⟨hY, hI, hB⟩ := HY.out _ hd6
  have YV := Lib.hid hY
  have IV := Lib.hid hI
  have BV := Lib.hid hB
  clear hY hI hB HY hd6
  obtain ⟨e0, e1, e2, e3, e4, e5, e6, e7, e8, e9, e10⟩ := eleven YV.out
  go_wp2_with fail
  (with_reducible refine (pnew_code IV.out _ _).mono ?_)
  rintro e w3 ⟨v3, rfl, hb⟩
  have Y3 := Lib.hid (YV.out.below hb)
  have I3 := Lib.hid (IV.out.below hb)
  have B3 := Lib.hid (BV.out.trans (hb.mono BV.out.size))
  clear e0 e1 e2 e3 e4 e5 e6 e7 e8 e9 e10 hb YV IV BV
  obtain ⟨e0, e1, e2, e3, e4, e5, e6, e7, e8, e9, e10⟩ := eleven Y3.out
  go_wp2_with fail
  (with_reducible refine (rcheck_any I3.out _ _).mono ?_)
  rintro e w4 hr
  obtain ⟨rfl, hb⟩ := hr
  have B4 := Lib.hid (B3.out.trans (hb.mono B3.out.size))
  clear e0 e1 e2 e3 e4 e5 e6 e7 e8 e9 e10 hb B3 Y3 I3
  generalize chk c = R at *
  have m3 : -300 < z.tmod 300 ∧ z.tmod 300 < 300 := ⟨Int.lt_tmod_of_pos _ (by omega), Int.tmod_lt_of_pos _ (by omega)⟩
  generalize hzt : z.tmod 300 = zt at *
  go_wp2_with fail
  by_cases hz : 0 < zt
  · have hsz : sizeS zt = zt.toNat := by unfold sizeS; rw [if_neg (by omega), if_pos (by omega)]
    (with_reducible refine (pbare_any zt _).mono ?_)
    rintro e w5 ⟨p3, m3, k3, g3, rfl, hp, hb, _, _, _, _⟩
    rw [hsz] at hp
    have E5 := Lib.hid hp
    have B5 := Lib.hid (B4.out.trans (hb.mono B4.out.size))
    clear hp hb B4 hsz
    have d20 : w5.cell? ⟨p3, 20, none⟩ = some (.pointer (some ⟨m3, 0, none⟩)) := E5.out.at20
    have d21 : w5.cell? ⟨p3, 21, none⟩ = some (.pointer (some ⟨k3, 0, none⟩)) := E5.out.at21
    have d22 : w5.cell? ⟨p3, 22, none⟩ = some (.slice none 0 0) := E5.out.at22
    have d23 : w5.cell? ⟨p3, 23, none⟩ = some (.slice none 0 0) := E5.out.at23
    have KS := Lib.hid (show Calls Try.prog 14 #[.pointer (some ⟨m3, 0, none⟩)] w5 (fun e V' => e = .returned (.int .i64 zt) ∧ w5 = V') by
      refine (msize_any E5.out.mem).mono ?_
      rintro e V' ⟨rfl, rfl⟩
      refine ⟨?_, rfl⟩
      congr 2
      simp [St.new]
      omega)
    go_wp2_with fail
    (with_reducible refine KS.out.mono ?_)
    rintro e u ⟨rfl, rfl⟩
    go_wp2
    go_ret
    exact ⟨rfl, B5.out⟩
  · have hsz : sizeS zt = 0 := by unfold sizeS; rw [if_pos (by omega)]
    (with_reducible refine (pbare_any zt _).mono ?_)
    rintro e w5 ⟨p3, m3, k3, g3, rfl, hp, hb, _, _, _, _⟩
    rw [hsz] at hp
    have E5 := Lib.hid hp
    have B5 := Lib.hid (B4.out.trans (hb.mono B4.out.size))
    clear hp hb B4 hsz
    have d20 : w5.cell? ⟨p3, 20, none⟩ = some (.pointer (some ⟨m3, 0, none⟩)) := E5.out.at20
    have d21 : w5.cell? ⟨p3, 21, none⟩ = some (.pointer (some ⟨k3, 0, none⟩)) := E5.out.at21
    have d22 : w5.cell? ⟨p3, 22, none⟩ = some (.slice none 0 0) := E5.out.at22
    have d23 : w5.cell? ⟨p3, 23, none⟩ = some (.slice none 0 0) := E5.out.at23
    have KS := Lib.hid (show Calls Try.prog 14 #[.pointer (some ⟨m3, 0, none⟩)] w5 (fun e V' => e = .returned (.int .i64 0) ∧ w5 = V') by
      refine (msize_any E5.out.mem).mono ?_
      rintro e V' ⟨rfl, rfl⟩
      refine ⟨?_, rfl⟩
      congr 2)
    go_wp2_with fail
    (with_reducible refine KS.out.mono ?_)
    rintro e u ⟨rfl, rfl⟩
    go_wp2
    go_ret
    exact ⟨rfl, B5.out⟩

end Go.Proofs.Ythiiidkkdlmneaa
