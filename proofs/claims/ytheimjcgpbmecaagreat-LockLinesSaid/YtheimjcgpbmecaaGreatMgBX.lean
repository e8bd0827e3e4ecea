/-
  Contract of the keep's Number.
  Contract of the keep's Short without lists.
  The keep's Config. (Written by wip/gen_lye.py.)
  The laws of levels: the configuration with one worker, an environment of the program made by New, what a machine alone leaves of it.
  Package memory: Peek.
  The laws of the lock: what the lock contains, machines alone, the chapter's example.
-/
import Derived.Test.YtheimjcgpbmecaaGreatMgAS
import Derived.Test.YtheimjcgpbmecaaGreatMgAV
import Derived.Deep.QuietTactic
import Derived.BigQuiet
import Derived.Lib.Hide
import Derived.Test.YtheimjcgpbmecaaGreatCfRDec
import Derived.Test.YtheimjcgpbmecaaGreatMgBS
import Derived.Test.YtheimjcgpbmecaaGreatLvM
import Derived.Test.YtheimjcgpbmecaaGreatMcN
import Derived.Test.YtheimjcgpbmecaaGreatMgAR
import Derived.Test.YtheimjcgpbmecaaGreatMgBL
namespace Go.Proofs.YtheimjcgpbmecaaGreat
open Go Go.RowKit

/-- A number from 0 to n - 1, behind some draws. -/
def NumR (n : Int) (w : World) (e : Ending) (w' : World) : Prop := ∃ y : Nat, (y : Int) < n ∧ e = .returned (.int .i64 y) ∧ ∃ m, w' = w.drewN m

set_option maxHeartbeats 1000000 in
theorem keepnum_any {w : World} {a : Option Addr} {L : Nat} {zs : List Int} (h : InInts w a L zs) (c k : Nat) (hk : k ≤ 1000000) (n : Int) (hn : 1 ≤ n) (hn' : n ≤ 1000000) :
    Calls Tryz.prog 22 #[.slice a L c, .int .i64 k, .int .i64 n] w (NumR n w) := by
  have hmax := h.2.1
  unfold maxLen at hmax
  by_cases hL : L = 0
  · subst hL
    clear h
    go_enter Tryz.func22, Tryz.ntmps22
    go_wp2
    go_ret
    exact ⟨0, by omega, rfl, 0, rfl⟩
  · have hL0 : ((L : Int) == 0) = false := by simp; omega
    have hL1 : (1 : Int) ≤ L := by omega
    have hm : k % L < L := Nat.mod_lt _ (by omega)
    obtain ⟨x, rfl, _, hc⟩ := h.2.2 (k % L) hm
    generalize zs.getD (k % L) 0 = z at hc
    clear h hL
    have hq := fun (d : Int) (u : World) => (rdraw_any d n (by omega) u).mono (fun e w' (h : e = .returned (.int .i64 (drw d n)) ∧ u = w') => (⟨h.1, h.2.symm⟩ : e = .returned (.int .i64 (drw d n)) ∧ w' = u))
    have hmi : (k : Int) % (L : Int) < (L : Int) := Int.emod_lt_of_pos _ (by omega)
    have hmi0 : 0 ≤ (k : Int) % (L : Int) := Int.emod_nonneg _ (by omega)
    have hd0 : 0 ≤ (k : Int) / (L : Int) := Int.ediv_nonneg (by omega) (by omega)
    have hd1 : (k : Int) / (L : Int) ≤ k := Int.ediv_le_self _ (by omega)
    have e0 : 0 ≤ (k : Int) / (L : Int) % 7 := Int.emod_nonneg _ (by omega)
    have e1 : (k : Int) / (L : Int) % 7 < 7 := Int.emod_lt_of_pos _ (by omega)
    go_enter Tryz.func22, Tryz.ntmps22
    go_wp2_with fail
    go_quiet ((go_at_call 15; exact Calls.quiet_of_same (hq _ _)))
    obtain ⟨g0, g1⟩ := drw_in (wrap64 (z.tdiv (1 + (k : Int) / (L : Int) % 7))) n hn
    generalize drw (wrap64 (z.tdiv (1 + (k : Int) / (L : Int) % 7))) n = y at *
    obtain ⟨y, rfl⟩ : ∃ u : Nat, y = (u : Int) := ⟨y.toNat, by omega⟩
    go_wp2
    go_ret
    exact ⟨y, g1, rfl, _, rfl⟩

end Go.Proofs.YtheimjcgpbmecaaGreat

namespace Go.Proofs.YtheimjcgpbmecaaGreat
open Go Go.RowKit

theorem short_nil {w : World} (a : Option Addr) (n c : Nat) :
    Calls Tryz.prog 7 #[.slice a n c, .slice none 0 0] w fun e w' => e = .returned (.bool (decide ((n : Int) ≤ 400))) ∧ w = w' := by
  go_enter Tryz.func7, Tryz.ntmps7
  go_wp2_with fail
  go_loopw [5] (fun i wr => wr = w ∧ i = .int .i64 0) (fun i _ => (1 - intOf i).toNat)
  case atStart => exact ⟨rfl, rfl⟩
  case round =>
    obtain ⟨rfl, rfl⟩ := hrel
    go_wp2
    go_ret
    exact ⟨rfl, rfl⟩

end Go.Proofs.YtheimjcgpbmecaaGreat

namespace Go.Proofs.YtheimjcgpbmecaaGreat
open Go Go.RowKit

theorem InB.up {w w' : World} {a : Option Addr} {n : Nat} {zs : List Int} (h : InB w w.heap.size a n zs) (hb : Below w.heap.size w w') : InB w' w'.heap.size a n zs := (h.below (Nat.le_refl _) hb).mono hb.size

theorem config_any {w : World} {a : Option Addr} {L : Nat} {zs : List Int} (h : InB w w.heap.size a L zs) (c : Nat) :
    Calls Tryz.prog 8 #[.slice a L c] w (Decoded zs w) := by
  have H := Lib.hid (h.up (below_one w (.cells zero11 29)))
  have B0 := Lib.hid (below_one w (.cells zero11 29))
  have Z0 := Lib.hid (Blk.made w 29 zero11)
  have hsz : (w.alloc (.cells zero11 29)).heap.size = w.heap.size + 1 := by simp
  clear h
  go_enter Tryz.func8, Tryz.ntmps8
  go_wp2_with fail
  (with_reducible refine (rdecode_any H.out c).mono ?_)
  rintro e w1 ⟨v, rfl, hcfg, hb⟩
  obtain ⟨pa, pn, pc, sa, sn, sc, rfl, h1, h2, h3, h4⟩ := hcfg
  obtain ⟨d, hd⟩ : ∃ d, decC (strm zs) = d := ⟨_, rfl⟩
  rw [hd] at h1 h2 h3 h4 ⊢
  have HDD := Lib.hid hd
  have HC := Lib.hid (And.intro h1 (And.intro h2 (And.intro h3 h4)))
  have HS := Lib.hid hsz
  have HB := Lib.hid (B0.out.trans (hb.mono B0.out.size))
  have Z1 := Lib.hid (Z0.out.below hb)
  clear h1 h2 h3 h4 hb hsz hd
  obtain ⟨d0, d1, d2, d3, d4, d5, d6, d7, d8, d9, d10⟩ := (⟨Z1.out.at_ 0, Z1.out.at_ 1, Z1.out.at_ 2, Z1.out.at_ 3, Z1.out.at_ 4, Z1.out.at_ 5, Z1.out.at_ 6, Z1.out.at_ 7, Z1.out.at_ 8, Z1.out.at_ 9, Z1.out.at_ 10⟩ : _ ∧ _ ∧ _ ∧ _ ∧ _ ∧ _ ∧ _ ∧ _ ∧ _ ∧ _ ∧ _)
  obtain ⟨g0, g1, g2, g3, g4, g5, g6, g7, g8, g9, g10⟩ := (⟨Z1.out.free 0, Z1.out.free 1, Z1.out.free 2, Z1.out.free 3, Z1.out.free 4, Z1.out.free 5, Z1.out.free 6, Z1.out.free 7, Z1.out.free 8, Z1.out.free 9, Z1.out.free 10⟩ : _ ∧ _ ∧ _ ∧ _ ∧ _ ∧ _ ∧ _ ∧ _ ∧ _ ∧ _ ∧ _)
  simp only [List.getElem?_toArray, List.getElem?_cons_zero, List.getElem?_cons_succ] at d0 d1 d2 d3 d4 d5 d6 d7 d8 d9 d10
  go_wp2
  have hD := Z1.out.put11 (.int .i64 d.wo) (.int .i64 d.le) (.int .i64 d.cl) (.int .i64 d.ta) (.int .i64 d.de) (.int .i64 d.he) (.int .i64 d.ba) (.int .i64 d.ag) (.int .i64 d.pa) (.slice pa pn pc) (.slice sa sn sc)
  have hF := fr11 w1 w.heap.size (.int .i64 d.wo) (.int .i64 d.le) (.int .i64 d.cl) (.int .i64 d.ta) (.int .i64 d.de) (.int .i64 d.he) (.int .i64 d.ba) (.int .i64 d.ag) (.int .i64 d.pa) (.slice pa pn pc) (.slice sa sn sc)
  refine bodyPost_ret (results_cell_row (P := Tryz.prog) Tryz.results8 _ _ w.heap.size 29 _ (0, 0) _ rfl hD Tryz.underlying29 rfl (by kernel_rfl)) rfl ?_
  obtain ⟨h1, h2, h3, h4⟩ := HC.out
  have hs := HS.out
  have hS : ∀ s, s ∈ [w.heap.size] → s < (w.alloc (.cells zero11 29)).heap.size := fun s hs' => by simp at hs'; omega
  have hS' : ∀ s, s ∈ [w.heap.size] → ¬ (w.alloc (.cells zero11 29)).heap.size ≤ s := fun s hs' => by have := hS s hs'; omega
  have hle : w.heap.size ≤ (w.alloc (.cells zero11 29)).heap.size := by omega
  have k1 := h1.fr hF (fun s hs' => by have := hS s hs'; omega)
  have k2 := h2.fr hF (fun s hs' => by have := hS s hs'; omega)
  obtain ⟨_, pc', e1, hp, _⟩ := k1.form
  obtain ⟨_, sc', e2, hss, _⟩ := k2.form
  cases e1
  cases e2
  unfold Decoded
  rw [HDD.out]
  exact ⟨_, rfl, ⟨pa, _, pc, sa, _, sc, rfl, k1.mono hle, k2.mono hle, hp.mono hle, hss.mono hle⟩, HB.out.trans (hF.below HB.out.size (fun k hk => by simp at hk; omega))⟩

end Go.Proofs.YtheimjcgpbmecaaGreat

namespace Go.Proofs.YtheimjcgpbmecaaGreat
open Go Go.RowKit Go.Shelf
set_option linter.unusedSimpArgs false
set_option linter.unusedVariables false

/-- One worker, n levels, k entries of a deque. -/
def twoC (n k : Nat) : Cfg := { decC (strm []) with le := n, de := k }
theorem two_ok : ∀ n : Fin 5, ∀ k : Fin 4, chk (twoC (n.val + 1) (k.val + 1)) = 0 := by decide +kernel
theorem two_chk {n k : Nat} (hn : 1 ≤ n ∧ n ≤ 5) (hk : 1 ≤ k ∧ k ≤ 4) : chk (twoC n k) = 0 := by
  have := two_ok ⟨n - 1, by omega⟩ ⟨k - 1, by omega⟩
  rw [show n - 1 + 1 = n by omega, show k - 1 + 1 = k by omega] at this
  exact this
theorem two_nums : (decC (strm [])).wo = 1 ∧ (decC (strm [])).cl = 1 ∧ (decC (strm [])).he = 1 ∧ (decC (strm [])).ta = 1 := by decide +kernel
theorem two_lv {n k : Nat} (hn : 1 ≤ n ∧ n ≤ 64) (hk : 1 ≤ k ∧ k ≤ 64) : LvC (twoC n k) n k 7 8 := by
  obtain ⟨e1, e2, e3, e4⟩ := two_nums
  have f1 : (twoC n k).wo = 1 := e1
  have f2 : (twoC n k).cl = 1 := e2
  have f3 : (twoC n k).he = 1 := e3
  have f4 : (twoC n k).le = n := rfl
  have f5 : (twoC n k).de = k := rfl
  refine ⟨fun a ha => ?_, ?_, by omega, by omega, hn, hk⟩
  · unfold rQueue
    rw [if_pos (show qIn (twoC n k) 0 a from ⟨Int.le_refl _, by rw [f1]; decide, by omega, by rw [f4]; omega⟩)]
    have : rAt (twoC n k) 0 a = ((8 + a * (2 + k) : Nat) : Int) := by
      unfold rAt rDeques
      rw [f1, f2, f3, f4, f5]
      simp
    rw [this, f5]
    rfl
  · unfold rBitmap ixs
    rw [f1, f2, f3]
    rfl

/-- A new memory holds nothing. -/
theorem new_old (n : Nat) (j : Int) : (St.new n).old j = 0 := by
  unfold St.old
  split
  · show (List.replicate n (0 : Int)).getD _ 0 = 0
    rw [List.getD_eq_getElem?_getD, List.getElem?_replicate]
    split <;> rfl
  · rfl
theorem new_U (n : Nat) : (St.new n).U := fun j => by rw [new_old]; exact uw_zero
theorem two_cells {n k : Nat} : (rCells (twoC n k)).toNat = 13 + n * (2 + k) := by
  obtain ⟨e1, e2, e3, e4⟩ := two_nums
  have f1 : (twoC n k).wo = 1 := e1
  have f2 : (twoC n k).cl = 1 := e2
  have f3 : (twoC n k).he = 1 := e3
  have f6 : (twoC n k).ta = 1 := e4
  have f4 : (twoC n k).le = n := rfl
  have f5 : (twoC n k).de = k := rfl
  unfold rCells rDeques rAll
  rw [f1, f2, f3, f4, f5, f6, Int.one_mul]
  have : ((n : Int) * (2 + (k : Int))) = ((n * (2 + k) : Nat) : Int) := by simp
  rw [this]
  omega
/-- A worker's deques in a new memory are empty. -/
theorem lvtwo_new {n k : Nat} (hn : 1 ≤ n ∧ n ≤ 64) (hk : 1 ≤ k ∧ k ≤ 64) : LvI (twoC n k) n k 7 8 (St.new (rCells (twoC n k)).toNat) (fun _ => 0) (fun _ => []) 0 := by
  have hc := two_lv hn hk
  refine ⟨fun a ha => ⟨by have := hc.small ha; omega, ?_, by rw [new_old]; rfl, by rw [new_old]; rfl, Nat.zero_le _, fun i hi => absurd hi (by simp), by omega⟩, ⟨0, by rw [new_old]; rfl, by decide, fun a ha hne => absurd rfl hne, fun a ha => Nat.zero_testBit a⟩, new_U _, fun a ha => by simp⟩
  show _ ≤ (List.replicate _ (0 : Int)).length
  rw [List.length_replicate, two_cells]
  have := hc.far (show a < n by omega)
  have h2 : a * (2 + k) + (2 + k) ≤ n * (2 + k) := by
    have := Nat.mul_le_mul_right (2 + k) (show a + 1 ≤ n by omega)
    rw [Nat.add_mul] at this
    omega
  omega

/-- An environment of the program with the configuration c. -/
structure EW (w0 : World) (p m k g cap : Nat) (c : Cfg) (hd : List Value) (rv ev : Value) (s : St) (w : World) : Prop where
  e : PE w p m k g cap s 0 0 hd rv ev
  l : LayHd hd c
  i : CfgIn c
  u : s.U
  b : Below w0.heap.size w0 w
  lo : w0.heap.size ≤ p ∧ w0.heap.size ≤ m ∧ w0.heap.size ≤ k ∧ w0.heap.size ≤ g
section
variable {w0 w w' : World} {p m k g cap : Nat} {c : Cfg} {hd : List Value} {rv ev : Value} {s s' : St}
theorem EW.below (h : EW w0 p m k g cap c hd rv ev s w) (hb : Below w.heap.size w w') : EW w0 p m k g cap c hd rv ev s w' :=
  ⟨h.e.below hb, h.l, h.i, h.u, h.b.trans (hb.mono h.b.size), h.lo⟩
/-- A machine that was made behind w0 has run alone. -/
theorem EW.done (h : EW w0 p m k g cap c hd rv ev s w) {b : Nat} (hb : w0.heap.size ≤ b) (hp : PE w' p m k g cap s' 0 0 hd rv ev) (hf : Fr [m, g, b] w w') (hu : s'.U) : EW w0 p m k g cap c hd rv ev s' w' :=
  ⟨hp, h.l, h.i, hu, below_of_fr h.b hf (fun y hy => by
    simp only [List.mem_cons, List.not_mem_nil, or_false] at hy
    have := h.lo
    rcases hy with rfl | rfl | rfl <;> omega), h.lo⟩
end
/-- Alone keeps words what they are. -/
theorem RunM_U {c : Cfg} {s s' : St} {x : Fra × Option Fra} {r : Res} {n : Nat} (h : RunM (lvS c) s x s' r n) : s.U → XU x → s'.U := by
  induction h with
  | last _ => exact fun hs hx => (lvS_U hs hx).1
  | cons _ _ ih => exact fun hs hx => ih (lvS_U hs hx).1 (lvS_U hs hx).2

theorem layHd_new (c : Cfg) (pa : Option Addr) (pn pc : Nat) (sa : Option Addr) (sn sc : Nat) : LayHd (hdC c pa pn pc sa sn sc 4 (4 + c.he) (4 + c.he + c.cl) (4 + c.he + c.cl + c.wo) (rDeques c) (rDeques c + rAll c) (rCells c) c.le c.de) c := fun j hj =>
  match j, hj with
  | 0, _ => rfl
  | 1, _ => rfl
  | 2, _ => rfl
  | 3, _ => rfl
  | 4, _ => rfl
  | 5, _ => rfl
  | 6, _ => rfl
  | 7, _ => rfl
  | 8, _ => rfl
/-- What New gives for a valid configuration. -/
def ENewed (c : Cfg) (w : World) (e : Ending) (w' : World) : Prop :=
  ∃ p m k g hd rv, e = .returned (.tuple #[.pointer (some ⟨p, 0, none⟩), .int .i64 0]) ∧ EW w p m k g (rCells c).toNat c hd rv (.slice none 0 0) (St.new (rCells c).toNat) w'
theorem enew_any {w : World} {B : Nat} {c : Cfg} {pa : Option Addr} {pn : Nat} {sa : Option Addr} {sn : Nat} (h : Lists w B c pa pn sa sn) (pc sc : Nat) (hc : chk c = 0) : Calls Tryz.prog 37 #[cv c pa pn pc sa sn sc] w (ENewed c w) := by
  obtain ⟨_, hk2, hk3, hk4⟩ := chk_ok hc
  have hbn : pn ≤ 1000 ∧ sn ≤ 1000 := by
    have e1 := h.pr.1
    have e2 := h.su.1
    have := hk2
    simp only [inB, Bool.and_eq_true, decide_eq_true_eq] at this
    omega
  refine (pnew_yes h pc sc hc hbn.1 hbn.2 (fun x hx => Nat.le_trans (chkPs_ok hk3 x hx).1 (by decide))).mono ?_
  rintro e w2 ⟨p, m, k, g, qa, qn, qc, ta, tn, tc, rv, rfl, hp, _, _, _, hb, l1, l2, l3, l4⟩
  exact ⟨p, m, k, g, _, rv, rfl, hp, layHd_new c qa qn qc ta tn tc, cfgIn_chk hc, new_U _, hb, l1, l2, l3, l4⟩

/-- What two gives. -/
def TwoG (n k : Nat) (w : World) (e : Ending) (w' : World) : Prop :=
  ∃ pa pn pc sa sn sc, e = .returned (cv (twoC n k) pa pn pc sa sn sc) ∧ Lists w' 0 (twoC n k) pa pn sa sn ∧ Below w.heap.size w w'
set_option maxRecDepth 100000 in
set_option maxHeartbeats 4000000 in
theorem two_any (n k : Nat) (w : World) : Calls Tryz.prog 57 #[.int .i64 n, .int .i64 k] w (TwoG n k w) := by
  have HI := Lib.hid (show InB (w.alloc (.cells zero11 29)) (w.alloc (.cells zero11 29)).heap.size none 0 [] from ⟨rfl, by unfold maxLen; simp, fun i hi => absurd hi (by omega)⟩)
  have B0 := Lib.hid (below_one w (.cells zero11 29))
  have Z0 := Lib.hid (Blk.made w 29 zero11)
  go_enter Tryz.func57, Tryz.ntmps57
  go_wp2_with fail
  (with_reducible refine (config_any HI.out 0).mono ?_)
  rintro e w1 ⟨v, rfl, hcfg, hb⟩
  obtain ⟨pa, pn, pc, sa, sn, sc, rfl, ho1, ho2, hl⟩ := hcfg
  obtain ⟨d, hd⟩ : ∃ d, decC (strm []) = d := ⟨_, rfl⟩
  rw [hd] at ho1 ho2 ⊢
  have HDD := Lib.hid hd
  have HL := Lib.hid (And.intro ho1 ho2)
  have hsz : (w.alloc (.cells zero11 29)).heap.size = w.heap.size + 1 := by simp
  rw [hsz] at HL
  have B1 := Lib.hid (B0.out.trans (hb.mono B0.out.size))
  have Z1 := Lib.hid (Z0.out.below hb)
  clear hd hl hb HI B0 Z0 ho1 ho2 hsz
  go_upto_region 2 with fail
  have X2 := Lib.hid (Blk.made w1 29 (cc d pa pn pc sa sn sc))
  have B2 := Lib.hid (B1.out.alloc B1.out.size (.cells (cc d pa pn pc sa sn sc) 29))
  have Z2 := Lib.hid (Z1.out.alloc (.cells (cc d pa pn pc sa sn sc) 29))
  have L2 := Lib.hid (show Below w1.heap.size w1 (w1.alloc (.cells (cc d pa pn pc sa sn sc) 29)) from below_one w1 _)
  have hlt : w.heap.size < w1.heap.size := Z1.out.lt
  generalize w1.alloc (.cells (cc d pa pn pc sa sn sc) 29) = W at *
  generalize hg : w1.heap.size = g at *
  have x1 := X2.out.at_ 1
  have x4 := X2.out.at_ 4
  have f1 := X2.out.free 1
  have f4 := X2.out.free 4
  have hX3 := (X2.out.put 1 (.int .i64 n)).put 4 (.int .i64 k)
  simp only [List.setIfInBounds_toArray, List.set_cons_zero, List.set_cons_succ] at hX3
  have hf3 : Fr [g] W ((W.setCell ⟨g, 1, none⟩ (.int .i64 n)).setCell ⟨g, 4, none⟩ (.int .i64 k)) := ((Fr.refl _ _).setCell (by simp) _).setCell (by simp) _
  have X3 := Lib.hid (show Blk ((W.setCell ⟨g, 1, none⟩ (.int .i64 n)).setCell ⟨g, 4, none⟩ (.int .i64 k)) g 29 (cc { d with le := n, de := k } pa pn pc sa sn sc) from hX3)
  have Z3 := Lib.hid (Z2.out.of_same (hf3.block _ Z2.out.lt (by simp; omega)))
  have HF := Lib.hid hf3
  have HG := Lib.hid hg
  clear hX3 hf3 hg
  go_upto_region 3 with fail
  generalize (W.setCell ⟨g, 1, none⟩ (.int .i64 n)).setCell ⟨g, 4, none⟩ (.int .i64 k) = W3 at *
  clear x1 x4 f1 f4
  obtain ⟨x0, x1, x2, x3, x4, x5, x6, x7, x8, x9, x10⟩ := eleven X3.out
  obtain ⟨d0, d1, d2, d3, d4, d5, d6, d7, d8, d9, d10⟩ := (⟨Z3.out.at_ 0, Z3.out.at_ 1, Z3.out.at_ 2, Z3.out.at_ 3, Z3.out.at_ 4, Z3.out.at_ 5, Z3.out.at_ 6, Z3.out.at_ 7, Z3.out.at_ 8, Z3.out.at_ 9, Z3.out.at_ 10⟩ : _ ∧ _ ∧ _ ∧ _ ∧ _ ∧ _ ∧ _ ∧ _ ∧ _ ∧ _ ∧ _)
  obtain ⟨g0, g1, g2, g3, g4, g5, g6, g7, g8, g9, g10⟩ := (⟨Z3.out.free 0, Z3.out.free 1, Z3.out.free 2, Z3.out.free 3, Z3.out.free 4, Z3.out.free 5, Z3.out.free 6, Z3.out.free 7, Z3.out.free 8, Z3.out.free 9, Z3.out.free 10⟩ : _ ∧ _ ∧ _ ∧ _ ∧ _ ∧ _ ∧ _ ∧ _ ∧ _ ∧ _ ∧ _)
  go_wp2
  have hD := Z3.out.put11 (.int .i64 d.wo) (.int .i64 n) (.int .i64 d.cl) (.int .i64 d.ta) (.int .i64 k) (.int .i64 d.he) (.int .i64 d.ba) (.int .i64 d.ag) (.int .i64 d.pa) (.slice pa pn pc) (.slice sa sn sc)
  have hF := fr11 W3 w.heap.size (.int .i64 d.wo) (.int .i64 n) (.int .i64 d.cl) (.int .i64 d.ta) (.int .i64 k) (.int .i64 d.he) (.int .i64 d.ba) (.int .i64 d.ag) (.int .i64 d.pa) (.slice pa pn pc) (.slice sa sn sc)
  refine bodyPost_ret (results_cell_row (P := Tryz.prog) Tryz.results57 _ _ w.heap.size 29 _ (0, 0) _ rfl hD Tryz.underlying29 rfl (by kernel_rfl)) rfl ?_
  have hb3' : Below g w1 W3 := L2.out.trans (HF.out.below (Nat.le_of_lt X2.out.lt) (fun y hy => by simp at hy; omega))
  have hb3 : Below w1.heap.size w1 W3 := by rw [HG.out]; exact hb3'
  have k1 := (HL.out.1.below hb3).fr hF (fun s hs => by simp at hs; omega)
  have k2 := (HL.out.2.below hb3).fr hF (fun s hs => by simp at hs; omega)
  obtain ⟨_, pc', e1, hp, _⟩ := k1.form
  obtain ⟨_, sc', e2, hss, _⟩ := k2.form
  cases e1
  cases e2
  have hw : Below w.heap.size w W3 := B1.out.trans (hb3'.mono (Nat.le_of_lt hlt))
  refine ⟨pa, d.pr.length, pc, sa, d.su.length, sc, ?_, ⟨?_, ?_⟩, hw.trans (hF.below hw.size (fun y hy => by simp at hy; omega))⟩
  · show Ending.returned (.agg (cc { d with le := n, de := k } pa d.pr.length pc sa d.su.length sc)) = _
    rw [← HDD.out]
    rfl
  · show Prgs _ 0 pa _ (decC (strm [])).pr
    rw [HDD.out]
    exact hp.mono (Nat.zero_le _)
  · show Tris _ 0 sa _ (decC (strm [])).su
    rw [HDD.out]
    exact hss.mono (Nat.zero_le _)
end Go.Proofs.YtheimjcgpbmecaaGreat

namespace Go.Proofs.YtheimjcgpbmecaaGreat
open Go Go.RowKit Go.Shelf

theorem peek_any {w : World} {p g cap : Nat} {s : St} (h : Mem w p g cap s) (i : Int) :
    Calls Tryz.prog 19 #[.pointer (some ⟨p, 0, none⟩), .int .i64 i] w fun e w' => e = .returned (.int .u64 (s.old i)) ∧ w = w' := by
  have h0 : w.cell? ⟨p, 0, none⟩ = some (.slice (some ⟨g, 0, none⟩) s.X.length cap) := h.blk.at_ 0
  have hs := h.small
  by_cases hi : s.has i
  · obtain ⟨j, rfl⟩ : ∃ j : Nat, i = (j : Int) := ⟨i.toNat, by have := hi.1; omega⟩
    have hj : j < s.X.length := by have := hi.2; omega
    have hc := h.row.cell hj
    simp only [St.old, if_pos hi, Int.toNat_natCast]
    generalize s.X.getD j 0 = x at *
    have H := has_yes h hj
    go_enter Tryz.func19, Tryz.ntmps19
    go_wp2_with fail
    refine H.mono ?_
    rintro e w' ⟨rfl, rfl⟩
    go_wp2
    go_ret
    exact ⟨rfl, rfl⟩
  · have H := Lib.hid (has_no h (St.has_no hi))
    simp only [St.old, if_neg hi]
    go_enter Tryz.func19, Tryz.ntmps19
    go_wp2_with fail
    refine H.out.mono ?_
    rintro e w' ⟨rfl, rfl⟩
    go_wp2
    go_ret
    exact ⟨rfl, rfl⟩
end Go.Proofs.YtheimjcgpbmecaaGreat

namespace Go.Proofs.YtheimjcgpbmecaaGreat
open Go Go.RowKit Go.Shelf
set_option linter.unusedSimpArgs false
set_option linter.unusedVariables false

/-- The lock contains v. -/
structure LK (s : St) (v : Int) : Prop where
  h : s.has 1
  o : s.old 1 = v
  u : s.U
theorem LK.got {s : St} (h : LK s 0) (a : Int) : s.hit 1 0 = true ∧ LK (lkTake s a) (lkU a) := by
  refine ⟨by simp [St.hit, h.h, h.o], (go_has ..).2 h.h, ?_, go_U h.u _ _ _ (fun x hx => ?_)⟩
  · unfold lkTake
    rw [go_old _ _ _ _ h.h, h.o, if_pos rfl]
  · split
    · exact uw_wrap _
    · exact hx
theorem LK.busy {s : St} {v : Int} (h : LK s v) (hv : v ≠ 0) (a : Int) : s.hit 1 0 = false ∧ LK (lkTake s a) v := by
  refine ⟨by simp [St.hit, h.h, h.o, hv], (go_has ..).2 h.h, ?_, go_U h.u _ _ _ (fun x hx => ?_)⟩
  · unfold lkTake
    rw [go_old _ _ _ _ h.h, h.o, if_neg hv]
  · split
    · exact uw_wrap _
    · exact hx
theorem LK.free {s : St} {v : Int} (h : LK s v) (f : Fra) : LK (relS s f).1 0 := by
  refine ⟨(go_has ..).2 h.h, ?_, go_U h.u _ _ _ (fun x hx => uw_zero)⟩
  show (s.go 2 1 fun _ => 0).old 1 = 0
  rw [go_old _ _ _ _ h.h]
theorem lkU_small {a : Int} (h : 0 ≤ a ∧ a ≤ 1000) : lkU a = a + 1 := by
  unfold lkU
  rw [IntKind.wrap_u64, IntKind.wrap_u64]
  omega
/-- The configuration of no bytes. -/
theorem nil_cells : (rCells (decC (strm []))).toNat = 16 := by decide +kernel
theorem nil_LK {c : Cfg} (h : decC (strm []) = c) : LK (St.new (rCells c).toNat) 0 := by
  subst h
  rw [nil_cells]
  exact ⟨by unfold St.has; decide, new_old _ _, new_U _⟩

/-- What a machine alone leaves that is done with its first step. -/
def LkDone (w : World) (p m k g cap : Nat) (s' : St) (t d : Int) (hd : List Value) (rv ev : Value) (q : Nat) (cd : Int) (e : Ending) (w' : World) : Prop :=
  e = .returned (.tuple #[.int .i64 cd, .int .i64 0, .int .i64 1]) ∧ PE w' p m k g cap s' t d hd rv ev ∧ Fr [m, g, q] w w'
section
variable {w : World} {p m k g cap : Nat} {s : St} {t d : Int} {hd : List Value} {rv ev : Value} {q : Nat} {f : Fra} {c : Cfg} {v most : Int}
theorem acq_got (hp : PE w p m k g cap s t d hd rv ev) (hlay : LayHd hd c) (h : LB w q 155 [.int .i64 f.fa] f 0 0) (hl : f.ln = 1) (hk : LK s 0) (hm : 0 < most) :
    Calls Tryz.prog 58 #[.pointer (some ⟨p, 0, none⟩), .iface 151 (.pointer (some ⟨q, 0, none⟩)), .int .i64 most] w (LkDone w p m k g cap (lkTake s f.fa) t d hd rv ev q 1) := by
  have e : (acqS s f).2.2 = ⟨true, 1, 0⟩ := by show (if s.hit 1 0 then _ else _) = _; rw [if_pos (hk.got f.fa).1]
  have := alone_acquirer hp hlay h hl (by rw [e]) hm
  rw [e] at this
  exact this.mono fun e w' h => h
theorem try_got (hp : PE w p m k g cap s t d hd rv ev) (hlay : LayHd hd c) (h : LB w q 157 [.int .i64 f.fa] f 0 0) (hl : f.ln = 1) (hk : LK s 0) (hm : 0 < most) :
    Calls Tryz.prog 58 #[.pointer (some ⟨p, 0, none⟩), .iface 156 (.pointer (some ⟨q, 0, none⟩)), .int .i64 most] w (LkDone w p m k g cap (lkTake s f.fa) t d hd rv ev q 1) := by
  have e : (tryS s f).2.2 = ⟨true, 1, 0⟩ := by show (if s.hit 1 0 then _ else _) = _; rw [if_pos (hk.got f.fa).1]
  have := alone_trier hp hlay h hl (by rw [e]) hm
  rw [e] at this
  exact this.mono fun e w' h => h
theorem try_busy (hp : PE w p m k g cap s t d hd rv ev) (hlay : LayHd hd c) (h : LB w q 157 [.int .i64 f.fa] f 0 0) (hl : f.ln = 1) (hk : LK s v) (hv : v ≠ 0) (hm : 0 < most) :
    Calls Tryz.prog 58 #[.pointer (some ⟨p, 0, none⟩), .iface 156 (.pointer (some ⟨q, 0, none⟩)), .int .i64 most] w (LkDone w p m k g cap (lkTake s f.fa) t d hd rv ev q 5) := by
  have e : (tryS s f).2.2 = ⟨true, 5, 0⟩ := by show (if s.hit 1 0 then _ else _) = _; rw [(hk.busy hv f.fa).1, if_neg (by decide)]
  have := alone_trier hp hlay h hl (by rw [e]) hm
  rw [e] at this
  exact this.mono fun e w' h => h
theorem rel_alone (hp : PE w p m k g cap s t d hd rv ev) (hlay : LayHd hd c) (h : LB w q 150 [] f 0 0) (hl : f.ln = 1) (hm : 0 < most) :
    Calls Tryz.prog 58 #[.pointer (some ⟨p, 0, none⟩), .iface 147 (.pointer (some ⟨q, 0, none⟩)), .int .i64 most] w (LkDone w p m k g cap (relS s f).1 t d hd rv ev q 0) :=
  (alone_releaser hp hlay h hl rfl hm).mono fun e w' h => h
end

set_option maxRecDepth 100000 in
set_option maxHeartbeats 8000000 in
theorem awake15_any (w : World) : Calls Tryz.prog 28 #[] w fun e w' => e = .returned (.bool true) ∧ Below w.heap.size w w' := by
  go_enter Tryz.func28, Tryz.ntmps28
  go_wp2_with fail
  (with_reducible refine (config_any (inB_nil w w.heap.size none) 0).mono ?_)
  rintro e w1 ⟨u, rfl, hcfg, hb1⟩
  obtain ⟨c, hcd⟩ : ∃ c, decC (strm []) = c := ⟨_, rfl⟩
  rw [hcd] at hcfg
  have hck := chk_dec (strm [])
  rw [hcd] at hck
  have HCK := Lib.hid (And.intro hcd hck)
  obtain ⟨pa, pn, pc, sa, sn, sc, rfl, hl⟩ := hcfg.isCfg
  have H1 := Lib.hid hl
  have B1 := Lib.hid hb1
  clear hl hb1 hcd hck hcfg
  go_wp2_with fail
  (with_reducible refine (enew_any H1.out _ _ HCK.out.2).mono ?_)
  rintro e w2 ⟨p, m, k, g, hd, rv, rfl, hE⟩
  have K2 := Lib.hid (nil_LK HCK.out.1)
  have E2 := Lib.hid (show EW w p m k g _ c hd rv (.slice none 0 0) _ w2 from ⟨hE.e, hE.l, hE.i, hE.u, B1.out.trans (hE.b.mono B1.out.size), by have := hE.lo; have := B1.out.size; omega⟩)
  have e20 := E2.out.e.at20
  clear hE H1 B1
  generalize (rCells c).toNat = cap at *
  generalize St.new cap = s0 at *
  go_wp2_with fail
  (with_reducible refine (acquirer_new 0 _).mono ?_)
  rintro e w3 ⟨b3, rfl, hv, hbl, hb⟩
  have E3 := Lib.hid (E2.out.below hb)
  have HA := Lib.hid (acq_got (most := 5) (f := fra1 7 0 0 0 0 0) E3.out.e E3.out.l hv rfl K2.out (by decide))
  have K3 := Lib.hid (K2.out.got 0).2
  have HBL := Lib.hid (Nat.le_trans E2.out.b.size hbl)
  clear hv hbl hb E2 e20
  go_wp2_with fail
  (with_reducible refine HA.out.mono ?_)
  rintro e w4 ⟨rfl, hp, hf⟩
  have E4 := Lib.hid (E3.out.done HBL.out hp hf K3.out.u)
  clear hp hf HA HBL E3
  go_wp2_with fail
  (with_reducible refine (trier_new 1 _).mono ?_)
  rintro e w5 ⟨b5, rfl, hv, hbl, hb⟩
  have E5 := Lib.hid (E4.out.below hb)
  have HA := Lib.hid (try_busy (most := 5) (f := fra1 8 0 0 0 0 1) E5.out.e E5.out.l hv rfl K3.out (by rw [lkU_small (by decide)]; decide) (by decide))
  have K5 := Lib.hid (K3.out.busy (by rw [lkU_small (by decide)]; decide) 1).2
  have HBL := Lib.hid (Nat.le_trans E4.out.b.size hbl)
  clear hv hbl hb E4
  go_wp2_with fail
  (with_reducible refine HA.out.mono ?_)
  rintro e w6 ⟨rfl, hp, hf⟩
  have E6 := Lib.hid (E5.out.done HBL.out hp hf K5.out.u)
  have e20 := E6.out.e.at20
  clear hp hf HA HBL E5
  go_wp2_with fail
  (with_reducible refine (peek_any E6.out.e.mem _).mono ?_)
  rintro e w7 ⟨rfl, rfl⟩
  rw [K5.out.o, lkU_small (by decide)]
  clear e20
  go_wp2_with fail
  (with_reducible refine (releaser_new _).mono ?_)
  rintro e w8 ⟨b8, rfl, hv, hbl, hb⟩
  have E8 := Lib.hid (E6.out.below hb)
  have HA := Lib.hid (rel_alone (most := 5) (f := fra1 9 0 0 0 0 0) E8.out.e E8.out.l hv rfl (by decide))
  have K8 := Lib.hid (K5.out.free (fra1 9 0 0 0 0 0))
  have HBL := Lib.hid (Nat.le_trans E6.out.b.size hbl)
  clear hv hbl hb E6
  go_wp2_with fail
  (with_reducible refine HA.out.mono ?_)
  rintro e w9 ⟨rfl, hp, hf⟩
  have E9 := Lib.hid (E8.out.done HBL.out hp hf K8.out.u)
  clear hp hf HA HBL E8
  go_wp2_with fail
  (with_reducible refine (trier_new 1 _).mono ?_)
  rintro e w10 ⟨b10, rfl, hv, hbl, hb⟩
  have E10 := Lib.hid (E9.out.below hb)
  have HA := Lib.hid (try_got (most := 5) (f := fra1 8 0 0 0 0 1) E10.out.e E10.out.l hv rfl K8.out (by decide))
  have K10 := Lib.hid (K8.out.got 1).2
  have HBL := Lib.hid (Nat.le_trans E9.out.b.size hbl)
  clear hv hbl hb E9
  go_wp2_with fail
  (with_reducible refine HA.out.mono ?_)
  rintro e w11 ⟨rfl, hp, hf⟩
  have E11 := Lib.hid (E10.out.done HBL.out hp hf K10.out.u)
  have e20 := E11.out.e.at20
  clear hp hf HA HBL E10
  go_wp2_with fail
  (with_reducible refine (peek_any E11.out.e.mem _).mono ?_)
  rintro e w12 ⟨rfl, rfl⟩
  rw [K10.out.o, lkU_small (by decide)]
  go_wp2
  go_ret
  exact ⟨rfl, E11.out.b⟩
end Go.Proofs.YtheimjcgpbmecaaGreat
