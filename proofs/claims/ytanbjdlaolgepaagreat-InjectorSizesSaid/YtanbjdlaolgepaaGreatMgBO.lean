/-
  Contract of the keep's Number.
  The keep's Config. (Written by wip/gen_lye.py.)
  The laws of levels: the configuration with one worker, an environment of the program made by New, what a machine alone leaves of it.
  The laws of injector: their configuration. (Made out of LvW's two.)
-/
import Derived.Test.YtanbjdlaolgepaaGreatMgAO
import Derived.Test.YtanbjdlaolgepaaGreatMgAT
import Derived.Deep.QuietTactic
import Derived.BigQuiet
import Derived.Lib.Hide
import Derived.Test.YtanbjdlaolgepaaGreatCfRDec
import Derived.Test.YtanbjdlaolgepaaGreatMgBD
import Derived.Test.YtanbjdlaolgepaaGreatMgBL
import Derived.Test.YtanbjdlaolgepaaGreatMgAC
import Derived.Test.YtanbjdlaolgepaaGreatMgAA
import Derived.Test.YtanbjdlaolgepaaGreatMgBF
import Derived.Deep.RegionHeld3
import Derived.RegionTactic
import Derived.Test.YtanbjdlaolgepaaGreatMgAN
import Derived.Test.YtanbjdlaolgepaaGreatMgAG
import Derived.Laws.BitsAllLaws
import Derived.Shelf.Abstract
import Derived.Test.YtanbjdlaolgepaaGreatRows
import Derived.WalkKit
import Derived.WalkSpells
import Derived.WalkLawsBesides
import Derived.Shelf.Strconv.Itoa0
import Derived.Test.YtanbjdlaolgepaaGreatMgAI
import Derived.LoopTactic
import Derived.OwnWalk
import Derived.Test.YtanbjdlaolgepaaGreatMcN
namespace Go.Proofs.YtanbjdlaolgepaaGreat
open Go Go.RowKit

/-- A number from 0 to n - 1, behind some draws. -/
def NumR (n : Int) (w : World) (e : Ending) (w' : World) : Prop := ∃ y : Nat, (y : Int) < n ∧ e = .returned (.int .i64 y) ∧ ∃ m, w' = w.drewN m

set_option maxHeartbeats 1000000 in
theorem keepnum_any {w : World} {a : Option Addr} {L : Nat} {zs : List Int} (h : InInts w a L zs) (c k : Nat) (hk : k ≤ 1000000) (n : Int) (hn : 1 ≤ n) (hn' : n ≤ 1000000) :
    Calls Tryz.prog 6 #[.slice a L c, .int .i64 k, .int .i64 n] w (NumR n w) := by
  have hmax := h.2.1
  unfold maxLen at hmax
  by_cases hL : L = 0
  · subst hL
    clear h
    go_enter Tryz.func6, Tryz.ntmps6
    go_wp2
    go_ret
    exact ⟨0, by omega, rfl, 0, rfl⟩
  · have hL0 : ((L : Int) == 0) = false := by simp; omega
    have hL1 : (1 : Int) ≤ L := by omega
    have hm : k % L < L := Nat.mod_lt _ (by omega)
    obtain ⟨x, rfl, _, hc⟩ := h.2.2 (k % L) hm
    generalize zs.getD (k % L) 0 = z at hc
    clear h hL
    have hq := fun (d : Int) (u : World) => (rdraw_any d n (by omega) u).mono (fun e w' (h : e = .returned (.int .i64 (drw d n)) ∧ u = w') => (⟨h.1, h.2.symm⟩ : e = .returned (.int .i64 (drw d n)) ∧ w' = u))
    have hmi : (k : Int) % (L : Int) < (L : Int) := Int.emod_lt_of_pos _ (by omega)
    have hmi0 : 0 ≤ (k : Int) % (L : Int) := Int.emod_nonneg _ (by omega)
    have hd0 : 0 ≤ (k : Int) / (L : Int) := Int.ediv_nonneg (by omega) (by omega)
    have hd1 : (k : Int) / (L : Int) ≤ k := Int.ediv_le_self _ (by omega)
    have e0 : 0 ≤ (k : Int) / (L : Int) % 7 := Int.emod_nonneg _ (by omega)
    have e1 : (k : Int) / (L : Int) % 7 < 7 := Int.emod_lt_of_pos _ (by omega)
    go_enter Tryz.func6, Tryz.ntmps6
    go_wp2_with fail
    go_quiet ((go_at_call 17; exact Calls.quiet_of_same (hq _ _)))
    obtain ⟨g0, g1⟩ := drw_in (wrap64 (z.tdiv (1 + (k : Int) / (L : Int) % 7))) n hn
    generalize drw (wrap64 (z.tdiv (1 + (k : Int) / (L : Int) % 7))) n = y at *
    obtain ⟨y, rfl⟩ : ∃ u : Nat, y = (u : Int) := ⟨y.toNat, by omega⟩
    go_wp2
    go_ret
    exact ⟨y, g1, rfl, _, rfl⟩

end Go.Proofs.YtanbjdlaolgepaaGreat

namespace Go.Proofs.YtanbjdlaolgepaaGreat
open Go Go.RowKit

theorem InB.up {w w' : World} {a : Option Addr} {n : Nat} {zs : List Int} (h : InB w w.heap.size a n zs) (hb : Below w.heap.size w w') : InB w' w'.heap.size a n zs := (h.below (Nat.le_refl _) hb).mono hb.size

theorem config_any {w : World} {a : Option Addr} {L : Nat} {zs : List Int} (h : InB w w.heap.size a L zs) (c : Nat) :
    Calls Tryz.prog 16 #[.slice a L c] w (Decoded zs w) := by
  have H := Lib.hid (h.up (below_one w (.cells zero11 28)))
  have B0 := Lib.hid (below_one w (.cells zero11 28))
  have Z0 := Lib.hid (Blk.made w 28 zero11)
  have hsz : (w.alloc (.cells zero11 28)).heap.size = w.heap.size + 1 := by simp
  clear h
  go_enter Tryz.func16, Tryz.ntmps16
  go_wp2_with fail
  (with_reducible refine (rdecode_any H.out c).mono ?_)
  rintro e w1 ⟨v, rfl, hcfg, hb⟩
  obtain ⟨pa, pn, pc, sa, sn, sc, rfl, h1, h2, h3, h4⟩ := hcfg
  obtain ⟨d, hd⟩ : ∃ d, decC (strm zs) = d := ⟨_, rfl⟩
  rw [hd] at h1 h2 h3 h4 ⊢
  have HDD := Lib.hid hd
  have HC := Lib.hid (And.intro h1 (And.intro h2 (And.intro h3 h4)))
  have HS := Lib.hid hsz
  have HB := Lib.hid (B0.out.trans (hb.mono B0.out.size))
  have Z1 := Lib.hid (Z0.out.below hb)
  clear h1 h2 h3 h4 hb hsz hd
  obtain ⟨d0, d1, d2, d3, d4, d5, d6, d7, d8, d9, d10⟩ := (⟨Z1.out.at_ 0, Z1.out.at_ 1, Z1.out.at_ 2, Z1.out.at_ 3, Z1.out.at_ 4, Z1.out.at_ 5, Z1.out.at_ 6, Z1.out.at_ 7, Z1.out.at_ 8, Z1.out.at_ 9, Z1.out.at_ 10⟩ : _ ∧ _ ∧ _ ∧ _ ∧ _ ∧ _ ∧ _ ∧ _ ∧ _ ∧ _ ∧ _)
  obtain ⟨g0, g1, g2, g3, g4, g5, g6, g7, g8, g9, g10⟩ := (⟨Z1.out.free 0, Z1.out.free 1, Z1.out.free 2, Z1.out.free 3, Z1.out.free 4, Z1.out.free 5, Z1.out.free 6, Z1.out.free 7, Z1.out.free 8, Z1.out.free 9, Z1.out.free 10⟩ : _ ∧ _ ∧ _ ∧ _ ∧ _ ∧ _ ∧ _ ∧ _ ∧ _ ∧ _ ∧ _)
  simp only [List.getElem?_toArray, List.getElem?_cons_zero, List.getElem?_cons_succ] at d0 d1 d2 d3 d4 d5 d6 d7 d8 d9 d10
  go_wp2
  have hD := Z1.out.put11 (.int .i64 d.wo) (.int .i64 d.le) (.int .i64 d.cl) (.int .i64 d.ta) (.int .i64 d.de) (.int .i64 d.he) (.int .i64 d.ba) (.int .i64 d.ag) (.int .i64 d.pa) (.slice pa pn pc) (.slice sa sn sc)
  have hF := fr11 w1 w.heap.size (.int .i64 d.wo) (.int .i64 d.le) (.int .i64 d.cl) (.int .i64 d.ta) (.int .i64 d.de) (.int .i64 d.he) (.int .i64 d.ba) (.int .i64 d.ag) (.int .i64 d.pa) (.slice pa pn pc) (.slice sa sn sc)
  refine bodyPost_ret (results_cell_row (P := Tryz.prog) Tryz.results16 _ _ w.heap.size 28 _ (0, 0) _ rfl hD Tryz.underlying28 rfl (by kernel_rfl)) rfl ?_
  obtain ⟨h1, h2, h3, h4⟩ := HC.out
  have hs := HS.out
  have hS : ∀ s, s ∈ [w.heap.size] → s < (w.alloc (.cells zero11 28)).heap.size := fun s hs' => by simp at hs'; omega
  have hS' : ∀ s, s ∈ [w.heap.size] → ¬ (w.alloc (.cells zero11 28)).heap.size ≤ s := fun s hs' => by have := hS s hs'; omega
  have hle : w.heap.size ≤ (w.alloc (.cells zero11 28)).heap.size := by omega
  have k1 := h1.fr hF (fun s hs' => by have := hS s hs'; omega)
  have k2 := h2.fr hF (fun s hs' => by have := hS s hs'; omega)
  obtain ⟨_, pc', e1, hp, _⟩ := k1.form
  obtain ⟨_, sc', e2, hss, _⟩ := k2.form
  cases e1
  cases e2
  unfold Decoded
  rw [HDD.out]
  exact ⟨_, rfl, ⟨pa, _, pc, sa, _, sc, rfl, k1.mono hle, k2.mono hle, hp.mono hle, hss.mono hle⟩, HB.out.trans (hF.below HB.out.size (fun k hk => by simp at hk; omega))⟩

end Go.Proofs.YtanbjdlaolgepaaGreat

namespace Go.Proofs.YtanbjdlaolgepaaGreat
open Go Go.RowKit Go.Shelf
set_option linter.unusedSimpArgs false
set_option linter.unusedVariables false

/-- A new memory holds nothing. -/
theorem new_old (n : Nat) (j : Int) : (St.new n).old j = 0 := by
  unfold St.old
  split
  · show (List.replicate n (0 : Int)).getD _ 0 = 0
    rw [List.getD_eq_getElem?_getD, List.getElem?_replicate]
    split <;> rfl
  · rfl
theorem new_U (n : Nat) : (St.new n).U := fun j => by rw [new_old]; exact uw_zero
/-- An environment of the program with the configuration c. -/
structure EW (w0 : World) (p m k g cap : Nat) (c : Cfg) (hd : List Value) (rv ev : Value) (s : St) (w : World) : Prop where
  e : PE w p m k g cap s 0 0 hd rv ev
  l : LayHd hd c
  i : CfgIn c
  u : s.U
  b : Below w0.heap.size w0 w
  lo : w0.heap.size ≤ p ∧ w0.heap.size ≤ m ∧ w0.heap.size ≤ k ∧ w0.heap.size ≤ g
section
variable {w0 w w' : World} {p m k g cap : Nat} {c : Cfg} {hd : List Value} {rv ev : Value} {s s' : St}
end
theorem layHd_new (c : Cfg) (pa : Option Addr) (pn pc : Nat) (sa : Option Addr) (sn sc : Nat) : LayHd (hdC c pa pn pc sa sn sc 4 (4 + c.he) (4 + c.he + c.cl) (4 + c.he + c.cl + c.wo) (rDeques c) (rDeques c + rAll c) (rCells c) c.le c.de) c :=
  ⟨fun j hj =>
  match j, hj with
  | 0, _ => rfl
  | 1, _ => rfl
  | 2, _ => rfl
  | 3, _ => rfl
  | 4, _ => rfl
  | 5, _ => rfl
  | 6, _ => rfl
  | 7, _ => rfl
  | 8, _ => rfl, fun j hj =>
  match j, hj with
  | 0, _ => rfl
  | 1, _ => rfl
  | 2, _ => rfl
  | 3, _ => rfl
  | 4, _ => rfl
  | 5, _ => rfl
  | 6, _ => rfl
  | 7, _ => rfl
  | 8, _ => rfl⟩
/-- What New gives for a valid configuration. -/
def ENewed (c : Cfg) (w : World) (e : Ending) (w' : World) : Prop :=
  ∃ p m k g hd rv, e = .returned (.tuple #[.pointer (some ⟨p, 0, none⟩), .int .i64 0]) ∧ EW w p m k g (rCells c).toNat c hd rv (.slice none 0 0) (St.new (rCells c).toNat) w'
theorem enew_any {w : World} {B : Nat} {c : Cfg} {pa : Option Addr} {pn : Nat} {sa : Option Addr} {sn : Nat} (h : Lists w B c pa pn sa sn) (pc sc : Nat) (hc : chk c = 0) : Calls Tryz.prog 21 #[cv c pa pn pc sa sn sc] w (ENewed c w) := by
  obtain ⟨_, hk2, hk3, hk4⟩ := chk_ok hc
  have hbn : pn ≤ 1000 ∧ sn ≤ 1000 := by
    have e1 := h.pr.1
    have e2 := h.su.1
    have := hk2
    simp only [inB, Bool.and_eq_true, decide_eq_true_eq] at this
    omega
  refine (pnew_yes h pc sc hc hbn.1 hbn.2 (fun x hx => Nat.le_trans (chkPs_ok hk3 x hx).1 (by decide))).mono ?_
  rintro e w2 ⟨p, m, k, g, qa, qn, qc, ta, tn, tc, rv, rfl, hp, _, _, _, hb, l1, l2, l3, l4⟩
  exact ⟨p, m, k, g, _, rv, rfl, hp, layHd_new c qa qn qc ta tn tc, cfgIn_chk hc, new_U _, hb, l1, l2, l3, l4⟩

end Go.Proofs.YtanbjdlaolgepaaGreat

namespace Go.Proofs.YtanbjdlaolgepaaGreat
open Go Go.RowKit Go.Shelf
set_option linter.unusedSimpArgs false
set_option linter.unusedVariables false

/-- The configuration whose injector has n places. -/
def roomC (n : Nat) : Cfg := { decC (strm []) with he := n, ta := 256 }
theorem room_ok : ∀ n : Fin 64, chk (roomC (n.val + 1)) = 0 := by decide +kernel
theorem room_chk {n : Nat} (hn : 1 ≤ n ∧ n ≤ 64) : chk (roomC n) = 0 := by
  have := room_ok ⟨n - 1, by omega⟩
  rwa [show n - 1 + 1 = n by omega] at this
theorem room_in {n : Nat} (hn : 1 ≤ n ∧ n ≤ 64) : CfgIn (roomC n) := cfgIn_chk (room_chk hn)
theorem room_he (n : Nat) : (roomC n).he = n := rfl
/-- What room gives. -/
def RoomG (n : Nat) (w : World) (e : Ending) (w' : World) : Prop :=
  ∃ pa pn pc sa sn sc, e = .returned (cv (roomC n) pa pn pc sa sn sc) ∧ Lists w' 0 (roomC n) pa pn sa sn ∧ Below w.heap.size w w'
set_option maxRecDepth 100000 in
set_option maxHeartbeats 4000000 in
theorem room_any (n : Nat) (w : World) : Calls Tryz.prog 5 #[.int .i64 n] w (RoomG n w) := by
  have HI := Lib.hid (show InB (w.alloc (.cells zero11 28)) (w.alloc (.cells zero11 28)).heap.size none 0 [] from ⟨rfl, by unfold maxLen; simp, fun i hi => absurd hi (by omega)⟩)
  have B0 := Lib.hid (below_one w (.cells zero11 28))
  have Z0 := Lib.hid (Blk.made w 28 zero11)
  go_enter Tryz.func5, Tryz.ntmps5
  go_wp2_with fail
  (with_reducible refine (config_any HI.out 0).mono ?_)
  rintro e w1 ⟨v, rfl, hcfg, hb⟩
  obtain ⟨pa, pn, pc, sa, sn, sc, rfl, ho1, ho2, hl⟩ := hcfg
  obtain ⟨d, hd⟩ : ∃ d, decC (strm []) = d := ⟨_, rfl⟩
  rw [hd] at ho1 ho2 ⊢
  have HDD := Lib.hid hd
  have HL := Lib.hid (And.intro ho1 ho2)
  have hsz : (w.alloc (.cells zero11 28)).heap.size = w.heap.size + 1 := by simp
  rw [hsz] at HL
  have B1 := Lib.hid (B0.out.trans (hb.mono B0.out.size))
  have Z1 := Lib.hid (Z0.out.below hb)
  clear hd hl hb HI B0 Z0 ho1 ho2 hsz
  go_upto_region 2 with fail
  have X2 := Lib.hid (Blk.made w1 28 (cc d pa pn pc sa sn sc))
  have B2 := Lib.hid (B1.out.alloc B1.out.size (.cells (cc d pa pn pc sa sn sc) 28))
  have Z2 := Lib.hid (Z1.out.alloc (.cells (cc d pa pn pc sa sn sc) 28))
  have L2 := Lib.hid (show Below w1.heap.size w1 (w1.alloc (.cells (cc d pa pn pc sa sn sc) 28)) from below_one w1 _)
  have hlt : w.heap.size < w1.heap.size := Z1.out.lt
  generalize w1.alloc (.cells (cc d pa pn pc sa sn sc) 28) = W at *
  generalize hg : w1.heap.size = g at *
  have x5 := X2.out.at_ 5
  have x3 := X2.out.at_ 3
  have f5 := X2.out.free 5
  have f3 := X2.out.free 3
  have hX3 := (X2.out.put 5 (.int .i64 n)).put 3 (.int .i64 256)
  simp only [List.setIfInBounds_toArray, List.set_cons_zero, List.set_cons_succ] at hX3
  have hf3 : Fr [g] W ((W.setCell ⟨g, 5, none⟩ (.int .i64 n)).setCell ⟨g, 3, none⟩ (.int .i64 256)) := ((Fr.refl _ _).setCell (by simp) _).setCell (by simp) _
  have X3 := Lib.hid (show Blk ((W.setCell ⟨g, 5, none⟩ (.int .i64 n)).setCell ⟨g, 3, none⟩ (.int .i64 256)) g 28 (cc { d with he := n, ta := 256 } pa pn pc sa sn sc) from hX3)
  have Z3 := Lib.hid (Z2.out.of_same (hf3.block _ Z2.out.lt (by simp; omega)))
  have HF := Lib.hid hf3
  have HG := Lib.hid hg
  clear hX3 hf3 hg
  go_upto_region 3 with fail
  generalize (W.setCell ⟨g, 5, none⟩ (.int .i64 n)).setCell ⟨g, 3, none⟩ (.int .i64 256) = W3 at *
  clear x5 x3 f5 f3
  obtain ⟨x0, x1, x2, x3, x4, x5, x6, x7, x8, x9, x10⟩ := eleven X3.out
  obtain ⟨d0, d1, d2, d3, d4, d5, d6, d7, d8, d9, d10⟩ := (⟨Z3.out.at_ 0, Z3.out.at_ 1, Z3.out.at_ 2, Z3.out.at_ 3, Z3.out.at_ 4, Z3.out.at_ 5, Z3.out.at_ 6, Z3.out.at_ 7, Z3.out.at_ 8, Z3.out.at_ 9, Z3.out.at_ 10⟩ : _ ∧ _ ∧ _ ∧ _ ∧ _ ∧ _ ∧ _ ∧ _ ∧ _ ∧ _ ∧ _)
  obtain ⟨g0, g1, g2, g3, g4, g5, g6, g7, g8, g9, g10⟩ := (⟨Z3.out.free 0, Z3.out.free 1, Z3.out.free 2, Z3.out.free 3, Z3.out.free 4, Z3.out.free 5, Z3.out.free 6, Z3.out.free 7, Z3.out.free 8, Z3.out.free 9, Z3.out.free 10⟩ : _ ∧ _ ∧ _ ∧ _ ∧ _ ∧ _ ∧ _ ∧ _ ∧ _ ∧ _ ∧ _)
  go_wp2
  have hD := Z3.out.put11 (.int .i64 d.wo) (.int .i64 d.le) (.int .i64 d.cl) (.int .i64 256) (.int .i64 d.de) (.int .i64 n) (.int .i64 d.ba) (.int .i64 d.ag) (.int .i64 d.pa) (.slice pa pn pc) (.slice sa sn sc)
  have hF := fr11 W3 w.heap.size (.int .i64 d.wo) (.int .i64 d.le) (.int .i64 d.cl) (.int .i64 256) (.int .i64 d.de) (.int .i64 n) (.int .i64 d.ba) (.int .i64 d.ag) (.int .i64 d.pa) (.slice pa pn pc) (.slice sa sn sc)
  refine bodyPost_ret (results_cell_row (P := Tryz.prog) Tryz.results5 _ _ w.heap.size 28 _ (0, 0) _ rfl hD Tryz.underlying28 rfl (by kernel_rfl)) rfl ?_
  have hb3' : Below g w1 W3 := L2.out.trans (HF.out.below (Nat.le_of_lt X2.out.lt) (fun y hy => by simp at hy; omega))
  have hb3 : Below w1.heap.size w1 W3 := by rw [HG.out]; exact hb3'
  have k1 := (HL.out.1.below hb3).fr hF (fun s hs => by simp at hs; omega)
  have k2 := (HL.out.2.below hb3).fr hF (fun s hs => by simp at hs; omega)
  obtain ⟨_, pc', e1, hp, _⟩ := k1.form
  obtain ⟨_, sc', e2, hss, _⟩ := k2.form
  cases e1
  cases e2
  have hw : Below w.heap.size w W3 := B1.out.trans (hb3'.mono (Nat.le_of_lt hlt))
  refine ⟨pa, d.pr.length, pc, sa, d.su.length, sc, ?_, ⟨?_, ?_⟩, hw.trans (hF.below hw.size (fun y hy => by simp at hy; omega))⟩
  · show Ending.returned (.agg (cc { d with he := n, ta := 256 } pa d.pr.length pc sa d.su.length sc)) = _
    rw [← HDD.out]
    rfl
  · show Prgs _ 0 pa _ (decC (strm [])).pr
    rw [HDD.out]
    exact hp.mono (Nat.zero_le _)
  · show Tris _ 0 sa _ (decC (strm [])).su
    rw [HDD.out]
    exact hss.mono (Nat.zero_le _)
end Go.Proofs.YtanbjdlaolgepaaGreat
