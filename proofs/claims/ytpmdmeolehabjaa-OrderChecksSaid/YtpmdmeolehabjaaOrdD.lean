/-
  The program's package order: change, tasks, follow, Check, Left.
-/
import Derived.Test.YtpmdmeolehabjaaOrdC
import Derived.Test.YtpmdmeolehabjaaEvIn
import Derived.Test.YtpmdmeolehabjaaCfChkC
namespace Go.Proofs.Ytpmdmeolehabjaa
open Go Go.RowKit
set_option linter.unusedSimpArgs false
set_option linter.unusedVariables false

theorem accept_any {w : World} {B x : Nat} {v : Value} {k : Con} (h : CT w B x v k) (c : Cfg) (pa : Option Addr) (pn pc : Nat) {sa : Option Addr} {sn : Nat} (sc : Nat) (d : Ev) (hS : Tris w 0 sa sn c.su) (hyB : 0 < sn → ∀ y, sa = some y → y.block < B) (hB : B ≤ w.heap.size) (hm : k.ks.length ≤ 1000) (hn : k.n ≤ 100000) (hk : d.kd = 1) :
    Calls Try.prog 39 #[.pointer (some ⟨x, 0, none⟩), cv c pa pn pc sa sn sc, .agg (evV d)] w fun e w' => e = .returned (.bool (chO c k d).isSome) ∧ Chg B x v ((chO c k d).getD k) w w' := by
  have hl := hS.1
  unfold chO
  rw [if_pos hk, hl]
  by_cases ho : 0 ≤ d.ot ∧ d.ot < (sn : Int)
  · by_cases hf : (k.ks.length : Int) = c.he
    · rw [if_neg (fun h => h.2 hf)]
      exact accept_full h c pa pn pc sa sn sc d ho hf
    · rw [if_pos ⟨ho, hf⟩]
      exact accept_yes h c pa pn pc sc d hS (hyB (by omega)) hB hm hn (i := d.ot.toNat) (by omega) (by omega) hf
  · rw [if_neg (fun h => ho h.1)]
    exact accept_out h c pa pn pc sa sn sc d ho
theorem remove_any {w : World} {B x : Nat} {v : Value} {k : Con} (h : CT w B x v k) (c : Cfg) (hm : k.ks.length ≤ 1000) (d : Ev) (hk : d.kd = 13) :
    Calls Try.prog 40 #[.pointer (some ⟨x, 0, none⟩), .int .i64 d.tk] w fun e w' => e = .returned (.bool (chO c k d).isSome) ∧ Chg B x v ((chO c k d).getD k) w w' := by
  unfold chO
  rw [if_neg (by omega), if_pos hk]
  by_cases hl : 0 < k.ks.length
  · by_cases ht : (k.ks.getD (lstO k.ks) zk).t = d.tk
    · rw [if_pos ⟨hl, ht⟩]
      exact remove_yes h hl hm _ ht
    · rw [if_neg (fun h => ht h.2)]
      exact remove_other h hl hm _ ht
  · rw [if_neg (fun h => hl h.1)]
    exact remove_none h (by omega) _
theorem Chg.low {B x : Nat} {v : Value} {k' : Con} {w w1 w' : World} (hb : Below w.heap.size w w1) (h : Chg B x v k' w1 w') : Chg B x v k' w w' := by
  obtain ⟨v', q1, q2, q3⟩ := h
  exact ⟨v', q1, (Fr.old hb).trans q2, fun b hb' => (q3 b hb').imp id (fun h => Nat.le_trans hb.size h)⟩
theorem change_beg {w : World} {c : Cfg} {pa : Option Addr} {pn pc : Nat} {sa : Option Addr} {sn sc : Nat} {d : Ev} (hX : BX w ((w.alloc (.cells (cc c pa pn pc sa sn sc) 25)).alloc (.cells (evV d) 39)) 0 c pa pn pc sa sn sc d) : True := trivial
set_option maxHeartbeats 2000000 in
theorem change_any {w : World} {B x : Nat} {v : Value} {k : Con} (h : CT w B x v k) (c : Cfg) (pa : Option Addr) (pn pc : Nat) {sa : Option Addr} {sn : Nat} (sc : Nat) (d : Ev) (hS : Tris w 0 sa sn c.su) (hyB : 0 < sn → ∀ y, sa = some y → y.block < B) (hB : B ≤ w.heap.size) (hm : k.ks.length ≤ 1000) (hn : k.n ≤ 100000) :
    Calls Try.prog 31 #[.pointer (some ⟨x, 0, none⟩), cv c pa pn pc sa sn sc, .agg (evV d)] w fun e w' => e = .returned (.bool (chO c k d).isSome) ∧ Chg B x v ((chO c k d).getD k) w w' := by
  have hX := bx_made w c pa pn pc sa sn sc d
  have e0 := hX.e.at_ 0
  have e1 := hX.e.at_ 1
  have e2 := hX.e.at_ 2
  have e3 := hX.e.at_ 3
  have e4 := hX.e.at_ 4
  obtain ⟨c0, c1, c2, c3, c4, c5, c6, c7, c8, c9, c10⟩ := eleven hX.c
  have HX := Lib.hid hX
  have H := Lib.hid h
  have H1 := Lib.hid (h.below hX.b)
  have HS := Lib.hid (hS.below hX.b)
  have HYB := Lib.hid hyB
  have HB := Lib.hid (Nat.le_trans hB hX.b.size)
  clear h hX hS hyB hB
  by_cases k1 : d.kd = 1
  · have hc := Lib.hid (accept_any H1.out c pa pn pc sc d HS.out HYB.out HB.out hm hn k1)
    have b1 : (d.kd == 1) = true := beq_iff_eq.2 k1
    have K1 := Lib.hid k1
    clear k1
    go_enter Try.func31, Try.ntmps31
    go_wp2_with fail
    (with_reducible refine hc.out.mono ?_)
    rintro e w1 ⟨rfl, hch⟩
    have HC := Lib.hid (hch.low HX.out.b)
    clear hch hc
    go_wp2
    go_ret
    exact ⟨rfl, HC.out⟩
  by_cases k13 : d.kd = 13
  · have hc := Lib.hid (remove_any H1.out c hm d k13)
    have b1 : (d.kd == 1) = false := beq_eq_false_iff_ne.2 k1
    have b13 : (d.kd == 13) = true := beq_iff_eq.2 k13
    have K1 := Lib.hid k1
    have K13 := Lib.hid k13
    clear k1 k13
    go_enter Try.func31, Try.ntmps31
    go_wp2_with fail
    (with_reducible refine hc.out.mono ?_)
    rintro e w1 ⟨rfl, hch⟩
    have HC := Lib.hid (hch.low HX.out.b)
    clear hch hc
    go_wp2
    go_ret
    exact ⟨rfl, HC.out⟩
  have b1 : (d.kd == 1) = false := beq_eq_false_iff_ne.2 k1
  have b13 : (d.kd == 13) = false := beq_eq_false_iff_ne.2 k13
  by_cases k2 : d.kd = 2
  · have b2 : (d.kd == 2) = true := beq_iff_eq.2 k2
    have hR : chO c k d = if d.lv ≠ 1 ∨ (k.ks.length : Int) = c.he then some k else none := by
      unfold chO
      rw [if_neg k1, if_neg k13, if_pos k2]
    rw [hR]
    clear hR k1 k13 k2
    by_cases hl : d.lv = 1
    · have b3 : (d.lv != 1) = false := by rw [hl]; rfl
      have HL := Lib.hid hl
      by_cases hf : (k.ks.length : Int) = c.he
      · have hc0 := full_any H1.out c pa pn pc sa sn sc
        rw [beq_iff_eq.2 hf] at hc0
        rw [if_pos (.inr hf)]
        have hc := Lib.hid hc0
        clear hl hf hc0
        go_enter Try.func31, Try.ntmps31
        go_wp2_with (with_reducible refine hc.out.mono ?_)
        rintro e w1 ⟨rfl, hb⟩
        have HC := Lib.hid (H.out.stay (HX.out.b.trans (hb.mono HX.out.b.size)))
        clear hb hc
        go_wp2
        go_ret
        exact ⟨rfl, HC.out⟩
      · have hc0 := full_any H1.out c pa pn pc sa sn sc
        rw [beq_eq_false_iff_ne.2 hf] at hc0
        rw [if_neg (fun h => h.elim (fun h => h hl) hf)]
        have hc := Lib.hid hc0
        clear hl hf hc0
        go_enter Try.func31, Try.ntmps31
        go_wp2_with (with_reducible refine hc.out.mono ?_)
        rintro e w1 ⟨rfl, hb⟩
        have HC := Lib.hid (H.out.stay (HX.out.b.trans (hb.mono HX.out.b.size)))
        clear hb hc
        go_wp2
        go_ret
        exact ⟨rfl, HC.out⟩
    · have b3 : (d.lv != 1) = true := bne_iff_ne.2 hl
      rw [if_pos (.inl hl)]
      have HL := Lib.hid hl
      clear hl
      go_enter Try.func31, Try.ntmps31
      go_wp2
      go_ret
      exact ⟨rfl, H.out.stay HX.out.b⟩
  · have b2 : (d.kd == 2) = false := beq_eq_false_iff_ne.2 k2
    have hR : chO c k d = some k := by
      unfold chO
      rw [if_neg k1, if_neg k13, if_neg k2]
    rw [hR]
    clear hR k1 k13 k2
    go_enter Try.func31, Try.ntmps31
    go_wp2
    go_ret
    exact ⟨rfl, H.out.stay HX.out.b⟩

/-- A result in a slot and one in a cell. -/
theorem results_tmp_cell {P : Program} {fn : Func} {p q : Tmp} {ty : TypeId} (h : fn.results = #[.tmp q, .cell p ty]) (tmps : Array Value) (w : World) (g : Nat) (t : TypeId) (cs : Array Value) (fr : Nat × Nat) (d : TypeDesc) (v : Value)
    (hp : tmps.getD p undef = .pointer (some ⟨g, 0, none⟩)) (hq : tmps.getD q undef = v) (hg : w.heap[g]? = some (.cells cs t fr))
    (hu : P.underlying ty = some d) (hd : (match d with | .struct _ | .array _ _ => true | _ => false) = true) (hi : (P.info? ty).map (·.size) = some cs.size) :
    (results fn tmps).run P w = .ok (.tuple #[v, .agg cs]) w := by
  have hp' : tmps[p]?.getD undef = .pointer (some ⟨g, 0, none⟩) := by simpa using hp
  have hq' : tmps[q]?.getD undef = v := by simpa using hq
  simp [results, h, hp', hq', asAddr, run_loadVar_row w g t ty cs fr d hg hu hd hi]
/-- What follow and its kin begin with, and what stays. -/
structure FIn (w : World) (B : Nat) (c : Cfg) (sa : Option Addr) (sn : Nat) (la : Option Addr) (es : List Ev) : Prop where
  su : Tris w 0 sa sn c.su
  ys : 0 < sn → ∀ y, sa = some y → y.block < B
  ev : InE w la es
  he : 0 ≤ c.he ∧ c.he ≤ 1000
  le : es.length ≤ 1000
theorem FIn.below {w w' : World} {B : Nat} {c : Cfg} {sa : Option Addr} {sn : Nat} {la : Option Addr} {es : List Ev} (h : FIn w B c sa sn la es) (hb : Below w.heap.size w w') : FIn w' B c sa sn la es := ⟨h.su.below hb, h.ys, h.ev.below hb, h.he, h.le⟩
/-- What follow gives. -/
def Folw (B : Nat) (c : Cfg) (es : List Ev) (w : World) (e : Ending) (w' : World) : Prop :=
  ∃ (i : Nat) (v : Value) (k : Con), e = .returned (.tuple #[.int .i64 i, .agg #[v, .int .i64 k.n]]) ∧ Fol c es i k ∧ OwnG w' B 72 3 v (k.ks.map kcells) ∧ Below w.heap.size w w'
set_option maxHeartbeats 2000000 in
theorem follow_any {w : World} {c : Cfg} (pa : Option Addr) (pn pc : Nat) {sa : Option Addr} {sn : Nat} (sc : Nat) {la : Option Addr} {es : List Ev} (lc : Nat) (h : FIn w w.heap.size c sa sn la es) :
    Calls Try.prog 21 #[cv c pa pn pc sa sn sc, .slice la es.length lc] w (Folw w.heap.size c es w) := by
  obtain ⟨L, hL⟩ : ∃ L, es.length = L := ⟨_, rfl⟩
  have HL := Lib.hid hL
  rw [hL]
  have hle := h.le
  rw [hL] at hle
  have HI := Lib.hid h
  have b1 := below_one w (.cells (cc c pa pn pc sa sn sc) 25)
  have m1 := Blk.made w 25 (cc c pa pn pc sa sn sc)
  have z1 : (w.alloc (.cells (cc c pa pn pc sa sn sc) 25)).heap.size = w.heap.size + 1 := World.size_alloc _ _
  have b2 := below_one (w.alloc (.cells (cc c pa pn pc sa sn sc) 25)) (.cells #[.slice none 0 0, .int .i64 0] 58)
  have m2 := Blk.made (w.alloc (.cells (cc c pa pn pc sa sn sc) 25)) 58 #[.slice none 0 0, .int .i64 0]
  have z2 : ((w.alloc (.cells (cc c pa pn pc sa sn sc) 25)).alloc (.cells #[.slice none 0 0, .int .i64 0] 58)).heap.size = w.heap.size + 1 + 1 := by rw [World.size_alloc, z1]
  have b3 := below_one ((w.alloc (.cells (cc c pa pn pc sa sn sc) 25)).alloc (.cells #[.slice none 0 0, .int .i64 0] 58)) (.cells #[.slice none 0 0, .int .i64 0] 58)
  have m3 := Blk.made ((w.alloc (.cells (cc c pa pn pc sa sn sc) 25)).alloc (.cells #[.slice none 0 0, .int .i64 0] 58)) 58 #[.slice none 0 0, .int .i64 0]
  rw [z1] at m2
  rw [z2] at m3
  have HBC := Lib.hid ((m1.below b2).below b3)
  have HBR := Lib.hid (m2.below b3)
  have HBX := Lib.hid m3
  have HB := Lib.hid ((b1.trans (b2.mono b1.size)).trans (b3.mono (Nat.le_trans b1.size b2.size)))
  clear b1 m1 b2 m2 b3 m3 z1 z2
  clear h hL
  go_enter Try.func21, Try.ntmps21
  go_upto_region 2 with fail
  generalize ((w.alloc (.cells (cc c pa pn pc sa sn sc) 25)).alloc (.cells #[.slice none 0 0, .int .i64 0] 58)).alloc (.cells #[.slice none 0 0, .int .i64 0] 58) = W0 at *
  generalize hq1 : w.heap.size + 1 = q1 at *
  generalize hq2 : q1 + 1 = q2 at *
  generalize hq0 : w.heap.size = q0 at *
  have HQ := Lib.hid (And.intro hq0 (And.intro hq1 hq2))
  clear hq0 hq1 hq2
  go_wp2_with fail
  go_loopw [11] (fun vi wr => ∃ (i : Nat) (v : Value) (k : Con), vi = .int .i64 i ∧ i ≤ L ∧ preO c (es.take i) con0 = some k ∧ CT wr q0 q2 v k ∧ Blk wr q0 25 (cc c pa pn pc sa sn sc) ∧ Blk wr q1 58 #[.slice none 0 0, .int .i64 0] ∧ Below q0 w wr) (fun v _ => L - (intOf v).toNat)
  case atStart =>
    obtain ⟨e0, e1, e2⟩ := HQ.out
    exact ⟨0, .slice none 0 0, con0, rfl, Nat.zero_le _, rfl, ⟨HBX.out, OwnG.nil _ _ _ _, by omega⟩, HBC.out, HBR.out, HB.out⟩
  case round =>
    obtain ⟨i, v, k, rfl, hi, hpre, hct, hbc, hbr, hb⟩ := hrel
    have HP := Lib.hid hpre
    have HC := Lib.hid hct
    have HBC' := Lib.hid hbc
    have HBR' := Lib.hid hbr
    have HB' := Lib.hid hb
    clear hpre hct hbc hbr hb HBX HBC HBR HB
    by_cases hlt : i < L
    · obtain ⟨d, hd⟩ : ∃ d, es[i]? = some d := ⟨_, List.getElem?_eq_getElem (by rw [HL.out]; exact hlt)⟩
      have hb := HB'.out
      rw [← HQ.out.1] at hb
      have hfi := HI.out.below (by exact hb)
      obtain ⟨y, rfl, d0, d1, d2, d3, d4⟩ := hfi.ev.at_ hd
      have HD := Lib.hid hd
      have HFI := Lib.hid hfi
      clear hb hfi hd
      have i0 : (0 : Int) ≤ (i : Int) := by omega
      have i1 : (i : Int) < (L : Int) := by omega
      have be := below_one wr (.cells (evV d) 39)
      have me := Blk.made wr 39 (evV d)
      have HBE := Lib.hid be
      have HME := Lib.hid me
      clear be me
      go_upto_region 5 with fail
      generalize wr.alloc (.cells (evV d) 39) = W1 at *
      obtain ⟨c0, c1, c2, c3, c4, c5, c6, c7, c8, c9, c10⟩ := eleven (HBC'.out.below HBE.out)
      have g0 := HME.out.at_ 0
      have g1 := HME.out.at_ 1
      have g2 := HME.out.at_ 2
      have g3 := HME.out.at_ 3
      have g4 := HME.out.at_ 4
      have hin := preO_in (c := c) HI.out.he.1 (by rw [HL.out]; omega) HP.out
      have hcall := change_any (HC.out.below HBE.out) c pa pn pc sc d (HFI.out.su.below HBE.out) HI.out.ys (by have := HB'.out.size; have := HBE.out.size; have := HQ.out; omega) (by have := hin.he; have := HI.out.he; omega) (by have := hin.ni; omega)
      have HCALL := Lib.hid hcall
      have HST := Lib.hid (preO_step HP.out HD.out)
      clear hcall hin d0 d1 d2 d3 d4
      go_wp2_with fail
      (with_reducible refine HCALL.out.mono ?_)
      rintro e w2 ⟨rfl, v', hct2, hf2, hv2⟩
      have hb1 : Below q0 w w2 := by
        have h1 := HB'.out.size
        have h2 := HBE.out.size
        have h3 := HQ.out
        refine (HB'.out.trans (HBE.out.mono (by omega))).trans (hf2.below (by omega) (fun x hx => ?_))
        simp only [List.mem_cons, Option.mem_toList] at hx
        rcases hx with rfl | hx
        · omega
        · exact (HC.out.own.lt x hx).1
      have apt : ∀ {q : Nat} {t : TypeId} {cs : Array Value}, Blk W1 q t cs → t ≠ 72 → q ≠ q2 → q ∉ q2 :: v.ownBlock.toList := fun {q t cs} hq ht hn hm => by
        simp only [List.mem_cons, Option.mem_toList] at hm
        rcases hm with hm | hm
        · exact hn hm
        · obtain ⟨cur, hc⟩ := (HC.out.below HBE.out).own.ty q hm
          exact hq.apart hc ht rfl
      have HBC2 := Lib.hid ((HBC'.out.below HBE.out).of_same (hf2.block q0 (HBC'.out.below HBE.out).lt (apt (HBC'.out.below HBE.out) (by decide) (by have := HQ.out; omega))))
      have HBR2 := Lib.hid ((HBR'.out.below HBE.out).of_same (hf2.block q1 (HBR'.out.below HBE.out).lt (apt (HBR'.out.below HBE.out) (by decide) (by have := HQ.out; omega))))
      have HC2 := Lib.hid hct2
      have HB2 := Lib.hid hb1
      clear c0 c1 c2 c3 c4 c5 c6 c7 c8 c9 c10 g0 g1 g2 g3 g4 hct2 hf2 hv2 hb1 apt HCALL HBE HME
      cases hch : chO c k d with
      | none =>
        rw [hch] at HC2
        have HN := Lib.hid hch
        have x0 := HC2.out.blk.at_ 0
        have x1 := HC2.out.blk.at_ 1
        have r0 := HBR2.out.at_ 0
        have r1 := HBR2.out.at_ 1
        have f0 := HBR2.out.free 0
        have f1 := HBR2.out.free 1
        obtain ⟨va, vc, hv, _⟩ := HC2.out.own.form
        rw [List.length_map] at hv
        have HV2 := Lib.hid hv
        rw [hv] at x0
        rw [show (none : Option Con).getD k = k from rfl] at x0 x1 HC2 HV2
        clear hv hch
        go_wp2_with fail
        go_region
        have hP : Blk (((w2.setCell ⟨q1, 0, none⟩ (.slice va k.ks.length vc)).setCell ⟨q1, 1, none⟩ (.int .i64 k.n)).drew) q1 58 #[.slice va k.ks.length vc, .int .i64 k.n] := by
          have := (HBR2.out.put 0 (.slice va k.ks.length vc)).put 1 (.int .i64 k.n)
          simp only [List.setIfInBounds_toArray, List.set_cons_zero, List.set_cons_succ] at this
          exact this
        have hF : Fr [q1] w2 (((w2.setCell ⟨q1, 0, none⟩ (.slice va k.ks.length vc)).setCell ⟨q1, 1, none⟩ (.int .i64 k.n)).drew) := (((Fr.refl _ _).setCell (.inl (by simp)) _).setCell (.inl (by simp)) _).drew
        generalize ((w2.setCell ⟨q1, 0, none⟩ (.slice va k.ks.length vc)).setCell ⟨q1, 1, none⟩ (.int .i64 k.n)).drew = W9 at *
        go_wp2
        refine bodyPost_ret (results_tmp_cell (P := Try.prog) (fn := Try.f21) rfl _ _ q1 58 _ (0, 0) _ _ rfl rfl hP Try.underlying58 rfl (by kernel_rfl)) rfl ?_
        have hown := HC2.out.own.same (w' := W9) (fun b hb => hF.block b (HC2.out.own.lt b hb).2 (by
          obtain ⟨cur, hc⟩ := HC2.out.own.ty b hb
          simpa using hc.apart HBR2.out (by decide)))
        rw [HV2.out] at hown
        obtain ⟨e0, e1, e2⟩ := HQ.out
        have hbl : Below q0 w W9 := HB2.out.trans (hF.below (by have := HB2.out.size; omega) (fun x hx => by simp at hx; omega))
        rw [← e0] at hbl
        exact ⟨i, _, k, rfl, ⟨by rw [HL.out]; omega, HP.out, fun d2 hd2 => by have e9 := HD.out.symm.trans hd2; simp only [Option.some.injEq] at e9; subst e9; exact HN.out⟩, hown, hbl⟩
      | some k2 =>
        rw [hch] at HC2 HST
        clear hch
        go_wp2
        go_roundw
        all_goals first
          | exact ⟨i + 1, v', k2, by push_cast; rfl, by omega, HST.out, HC2.out, HBC2.out, HBR2.out, HB2.out⟩
          | (simp only [intOf]; omega)
    · obtain rfl : i = L := by omega
      have x0 := HC.out.blk.at_ 0
      have x1 := HC.out.blk.at_ 1
      have r0 := HBR'.out.at_ 0
      have r1 := HBR'.out.at_ 1
      have f0 := HBR'.out.free 0
      have f1 := HBR'.out.free 1
      have hv1 := HC.out.own.form
      obtain ⟨va, vc, hv, _⟩ := hv1
      rw [List.length_map] at hv
      have HV := Lib.hid hv
      rw [hv] at x0
      clear hv
      go_wp2_with fail
      go_region
      have hP : Blk (((wr.setCell ⟨q1, 0, none⟩ (.slice va k.ks.length vc)).setCell ⟨q1, 1, none⟩ (.int .i64 k.n)).drew) q1 58 #[.slice va k.ks.length vc, .int .i64 k.n] := by
        have := (HBR'.out.put 0 (.slice va k.ks.length vc)).put 1 (.int .i64 k.n)
        simp only [List.setIfInBounds_toArray, List.set_cons_zero, List.set_cons_succ] at this
        exact this
      have hF : Fr [q1] wr (((wr.setCell ⟨q1, 0, none⟩ (.slice va k.ks.length vc)).setCell ⟨q1, 1, none⟩ (.int .i64 k.n)).drew) := (((Fr.refl _ _).setCell (.inl (by simp)) _).setCell (.inl (by simp)) _).drew
      generalize ((wr.setCell ⟨q1, 0, none⟩ (.slice va k.ks.length vc)).setCell ⟨q1, 1, none⟩ (.int .i64 k.n)).drew = W9 at *
      go_wp2
      refine bodyPost_ret (results_tmp_cell (P := Try.prog) (fn := Try.f21) rfl _ _ q1 58 _ (0, 0) _ _ rfl rfl hP Try.underlying58 rfl (by kernel_rfl)) rfl ?_
      have hown := HC.out.own.same (w' := W9) (fun b hb => hF.block b (HC.out.own.lt b hb).2 (by
        obtain ⟨cur, hc⟩ := HC.out.own.ty b hb
        simpa using hc.apart HBR'.out (by decide)))
      rw [HV.out] at hown
      obtain ⟨e0, e1, e2⟩ := HQ.out
      have hbl : Below q0 w W9 := HB'.out.trans (hF.below (by have := HB'.out.size; omega) (fun x hx => by simp at hx; omega))
      rw [← e0] at hbl
      exact ⟨i, _, k, rfl, ⟨by rw [HL.out]; omega, HP.out, fun d hd => by have := (List.getElem?_eq_some_iff.1 hd).1; rw [HL.out] at this; omega⟩, hown, hbl⟩
theorem tris_ys {w : World} {sa : Option Addr} {sn : Nat} {l : List T3} (h : Tris w 0 sa sn l) (hn : 0 < sn) : ∀ y, sa = some y → y.block < w.heap.size := fun y hy => by
  obtain ⟨x, e, _, hx, _⟩ := h.2.2 0 hn
  rw [hy] at e
  simp only [Option.some.injEq] at e
  subst e
  exact hx
/-- What Check returns. -/
def ChkO (c : Cfg) (es : List Ev) (n err : Int) : Prop :=
  (chk c ≠ 0 ∧ n = 0 ∧ err = chk c) ∨ (chk c = 0 ∧ ∃ (i : Nat) (k : Con), Fol c es i k ∧ n = i ∧ err = if i < es.length then 6 else 0)
theorem ChkO.one {c : Cfg} {es : List Ev} {n err n' err' : Int} (h : ChkO c es n err) (h' : ChkO c es n' err') : n = n' ∧ err = err' := by
  rcases h with ⟨h0, rfl, rfl⟩ | ⟨h0, i, k, hf, rfl, rfl⟩
  · rcases h' with ⟨_, rfl, rfl⟩ | ⟨h1, _⟩
    · exact ⟨rfl, rfl⟩
    · exact absurd h1 h0
  · rcases h' with ⟨h1, _⟩ | ⟨_, j, k', hf', rfl, rfl⟩
    · exact absurd h0 h1
    · obtain ⟨rfl, _⟩ := hf.one hf'
      exact ⟨rfl, rfl⟩
theorem chk_he {c : Cfg} (h : chk c = 0) : 0 ≤ c.he ∧ c.he ≤ 1000 := by
  obtain ⟨h1, _⟩ := chk_ok h
  obtain ⟨_, _, _, _, _, g, _⟩ := numsB_iff.1 h1
  omega
set_option maxHeartbeats 2000000 in
theorem ocheck_any {w : World} {c : Cfg} {pa : Option Addr} {pn : Nat} (pc : Nat) {sa : Option Addr} {sn : Nat} (sc : Nat) {la : Option Addr} {es : List Ev} (lc : Nat) (hl : Lists w 0 c pa pn sa sn) (he : InE w la es) (hle : es.length ≤ 1000) :
    Calls Try.prog 13 #[cv c pa pn pc sa sn sc, .slice la es.length lc] w fun e w' => ∃ n err : Int, e = .returned (.tuple #[.int .i64 n, .int .i64 err]) ∧ ChkO c es n err ∧ Below w.heap.size w w' := by
  have hX := Blk.made w 25 (cc c pa pn pc sa sn sc)
  have HB := Lib.hid (below_one w (.cells (cc c pa pn pc sa sn sc) 25))
  obtain ⟨e0, e1, e2, e3, e4, e5, e6, e7, e8, e9, e10⟩ := eleven hX
  have HX := Lib.hid hX
  have HL := Lib.hid hl
  have HE := Lib.hid he
  obtain ⟨L, hL⟩ : ∃ L, es.length = L := ⟨_, rfl⟩
  have HLL := Lib.hid hL
  rw [hL] at hle ⊢
  clear hX hl he hL
  by_cases h0 : chk c = 0
  · have hc0 := check_any (HL.out.below HB.out) pc sc
    rw [h0] at hc0
    have HC0 := Lib.hid hc0
    have H0 := Lib.hid h0
    clear hc0 h0
    go_enter Try.func13, Try.ntmps13
    go_wp2_with (with_reducible refine HC0.out.mono ?_)
    rintro e w1 ⟨rfl, hb1⟩
    have HB1 := Lib.hid (HB.out.trans (hb1.mono HB.out.size))
    obtain ⟨c0, c1, c2, c3, c4, c5, c6, c7, c8, c9, c10⟩ := eleven (HX.out.below hb1)
    clear e0 e1 e2 e3 e4 e5 e6 e7 e8 e9 e10 hb1 HC0
    have hl1 := HL.out.below HB1.out
    have hfo := follow_any (w := w1) pa pn pc sc (es := es) lc ⟨hl1.su, tris_ys hl1.su, HE.out.below HB1.out, chk_he H0.out, by rw [HLL.out]; exact hle⟩
    rw [HLL.out] at hfo
    have HFO := Lib.hid hfo
    clear hfo hl1
    go_wp2_with fail
    (with_reducible refine HFO.out.mono ?_)
    rintro e w2 ⟨i, v, k, rfl, hfol, hown, hb2⟩
    have HB2 := Lib.hid (HB1.out.trans (hb2.mono HB1.out.size))
    have HF := Lib.hid hfol
    have hil := hfol.le
    rw [HLL.out] at hil
    obtain ⟨va, vc, hv, _⟩ := hown.form
    subst hv
    clear hown hfol hb2 HFO c0 c1 c2 c3 c4 c5 c6 c7 c8 c9 c10
    have HB3 := Lib.hid (HB2.out.trans ((below_one w2 (.cells #[.slice va k.ks.length vc, .int .i64 k.n] 58)).mono HB2.out.size))
    by_cases hlt : i < L
    · have d0 : decide ((i : Int) < (L : Int)) = true := decide_eq_true (by omega)
      go_wp2
      go_ret2
      exact ⟨i, 6, rfl, .inr ⟨H0.out, i, k, HF.out, rfl, by rw [HLL.out, if_pos hlt]⟩, HB3.out⟩
    · have d0 : decide ((i : Int) < (L : Int)) = false := decide_eq_false (by omega)
      go_wp2
      go_ret2
      exact ⟨i, 0, rfl, .inr ⟨H0.out, i, k, HF.out, rfl, by rw [HLL.out, if_neg hlt]⟩, HB3.out⟩
  · have hc0 := check_any (HL.out.below HB.out) pc sc
    obtain ⟨R, hR⟩ : ∃ R, chk c = R := ⟨_, rfl⟩
    rw [hR] at hc0
    have hne : (R != 0) = true := bne_iff_ne.2 (by rw [← hR]; exact h0)
    have HC0 := Lib.hid hc0
    have H0 := Lib.hid h0
    have HR := Lib.hid hR
    clear hc0 h0 hR
    go_enter Try.func13, Try.ntmps13
    go_wp2_with (with_reducible refine HC0.out.mono ?_)
    rintro e w1 ⟨rfl, hb1⟩
    have HB1 := Lib.hid (HB.out.trans (hb1.mono HB.out.size))
    clear hb1 HC0 e0 e1 e2 e3 e4 e5 e6 e7 e8 e9 e10
    go_wp2
    go_ret2
    exact ⟨0, R, rfl, .inl ⟨H0.out, rfl, HR.out.symm⟩, HB1.out⟩
end Go.Proofs.Ytpmdmeolehabjaa
