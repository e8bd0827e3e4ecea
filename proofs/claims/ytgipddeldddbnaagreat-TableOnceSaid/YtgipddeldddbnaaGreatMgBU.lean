/-
  Slices of ints that came in.
  A drawn number, and the contract of the reference's Draw.
  Contract of the keep's Number.
  Contract of the keep's Short without lists.
  The keep's Config. (Written by wip/gen_lye.py.)
  The laws of levels: the configuration with one worker, an environment of the program made by New, what a machine alone leaves of it.
-/
import Derived.Test.YtgipddeldddbnaaGreatMgAD
import Derived.Test.YtgipddeldddbnaaGreatRows
import Derived.WalkKit
import Derived.WalkSpells
import Derived.WalkLawsBesides
import Derived.Deep.QuietTactic
import Derived.BigQuiet
import Derived.Lib.Hide
import Derived.Test.YtgipddeldddbnaaGreatCfRDec
import Derived.Test.YtgipddeldddbnaaGreatMgBG
import Derived.Test.YtgipddeldddbnaaGreatLvM
import Derived.Test.YtgipddeldddbnaaGreatMcN
namespace Go.Proofs.YtgipddeldddbnaaGreat
open Go Go.ChangeShapes Go.WideShapes Go.ChangeAt Go.RowKit

/-- The slice (a, n) reads as the numbers zs (ints). -/
def InInts (w : World) (a : Option Addr) (n : Nat) (zs : List Int) : Prop :=
  zs.length = n ∧ n ≤ maxLen ∧ ∀ i, i < n → ∃ x : Addr, a = some x ∧ x.block < w.heap.size ∧ w.cell? (x.add i) = some (.int .i64 (zs.getD i 0))

theorem InInts.below {w w' : World} {a : Option Addr} {n : Nat} {zs : List Int} (h : InInts w a n zs) (hb : Below w.heap.size w w') : InInts w' a n zs :=
  ⟨h.1, h.2.1, fun i hi => by
    obtain ⟨x, e, hx, hc⟩ := h.2.2 i hi
    refine ⟨x, e, Nat.lt_of_lt_of_le hx hb.size, ?_⟩
    rw [hb.cell (by rw [show (x.add i).block = x.block by unfold Addr.add; split <;> rfl]; exact hx)]
    exact hc⟩

theorem InInts.cell {w : World} {x : Addr} {n i : Nat} {zs : List Int} (h : InInts w (some x) n zs) (hi : i < n) : w.cell? (x.add i) = some (.int .i64 (zs.getD i 0)) := by
  obtain ⟨y, e, _, hc⟩ := h.2.2 i hi
  cases e
  exact hc

set_option maxRecDepth 100000 in
theorem open_introw {H : Type} {enc : TypeId × Value → H} {w : World} {base b0 : Nat} {spare : Nat → Bool} {held : Bool} {r : Reach} {v : Value} {d : DataW H} {p : List MemPlace}
    (hv : Value.okWide Tryz.prog w r b0 49 v) (h : DataW.Trod enc Tryz.prog w base spare held 49 v d p) :
    ∃ (a : Option Addr) (n c : Nat) (zs : List Int), v = .slice a n c ∧ InInts w a n zs := by
  obtain ⟨a, n, c, rfl⟩ := okWide_slice Tryz.underlying49 hv
  obtain ⟨fuel, hf⟩ := h
  rcases open_ints Tryz.underlying49 Tryz.underlying3 (by kernel_rfl) hf with ⟨hcs, _⟩ | ⟨x, l, c', zs, hcs, _, hl, hm, hz, _, hcell, _⟩
  · simp [Value.cells] at hcs
    obtain ⟨rfl, rfl, rfl⟩ := hcs
    exact ⟨_, _, _, [], rfl, rfl, by simp, fun i hi => absurd hi (by omega)⟩
  · simp [Value.cells] at hcs
    obtain ⟨rfl, rfl, rfl⟩ := hcs
    have hnz : n ≤ zs.length := by rw [hz]; split <;> omega
    refine ⟨_, _, _, zs.take n, rfl, by simp; omega, by omega, fun i hi => ⟨x, rfl, ?_, ?_⟩⟩
    · have := World.block_lt_of_cell? w _ (hcell i (by omega))
      rwa [show (x.add i).block = x.block by unfold Addr.add; split <;> rfl] at this
    · rw [hcell i (by omega), List.getD_eq_getElem?_getD, List.getD_eq_getElem?_getD, List.getElem?_take, if_pos hi]
end Go.Proofs.YtgipddeldddbnaaGreat

namespace Go.Proofs.YtgipddeldddbnaaGreat
open Go Go.RowKit

/-- The number from 0 to n - 1 that differs from d by a multiple of n; 0 if n is less than 1. -/
def drw (d n : Int) : Int := if n < 1 then 0 else if d.tmod n < 0 then d.tmod n + n else d.tmod n
theorem drw_low (d n : Int) (h : n < 1) : drw d n = 0 := if_pos h
theorem drw_neg (d n : Int) (h : ¬ n < 1) (h' : d.tmod n < 0) : drw d n = d.tmod n + n := by rw [drw, if_neg h, if_pos h']
theorem drw_pos (d n : Int) (h : ¬ n < 1) (h' : ¬ d.tmod n < 0) : drw d n = d.tmod n := by rw [drw, if_neg h, if_neg h']
theorem tmod_in (d n : Int) (h : ¬ n < 1) : -n < d.tmod n ∧ d.tmod n < n := by
  have h1 := Int.tmod_lt_of_pos d (show 0 < n by omega)
  have h2 := Int.lt_tmod_of_pos d (show 0 < n by omega)
  omega
theorem drw_in (d n : Int) (h : 1 ≤ n) : 0 ≤ drw d n ∧ drw d n < n := by
  have hr := tmod_in d n (by omega)
  unfold drw
  rw [if_neg (by omega)]
  split <;> omega
theorem drw_self (d n : Int) (h : 0 ≤ d) (h' : d < n) : drw d n = d := by
  unfold drw
  rw [if_neg (by omega), Int.tmod_eq_of_lt h h', if_neg (by omega)]

theorem rdraw_any (d n : Int) (hn : n ≤ 9223372036854775807) (w : World) :
    Calls Tryz.prog 7 #[.int .i64 d, .int .i64 n] w fun e w' => e = .returned (.int .i64 (drw d n)) ∧ w = w' := by
  by_cases h : n < 1
  · rw [drw_low d n h]
    clear hn
    go_enter Tryz.func7, Tryz.ntmps7
    go_wp2
    go_ret
    exact ⟨rfl, rfl⟩
  · have hr := tmod_in d n h
    by_cases h' : d.tmod n < 0
    · rw [drw_neg d n h h']
      generalize hg : d.tmod n = r at *
      go_enter Tryz.func7, Tryz.ntmps7
      go_wp2
      go_ret
      exact ⟨rfl, rfl⟩
    · rw [drw_pos d n h h']
      generalize hg : d.tmod n = r at *
      have h'' : 0 ≤ r := by omega
      go_enter Tryz.func7, Tryz.ntmps7
      go_wp2
      go_ret
      exact ⟨rfl, rfl⟩
end Go.Proofs.YtgipddeldddbnaaGreat

namespace Go.Proofs.YtgipddeldddbnaaGreat
open Go Go.RowKit

/-- A number from 0 to n - 1, behind some draws. -/
def NumR (n : Int) (w : World) (e : Ending) (w' : World) : Prop := ∃ y : Nat, (y : Int) < n ∧ e = .returned (.int .i64 y) ∧ ∃ m, w' = w.drewN m

end Go.Proofs.YtgipddeldddbnaaGreat

namespace Go.Proofs.YtgipddeldddbnaaGreat
open Go Go.RowKit

end Go.Proofs.YtgipddeldddbnaaGreat

namespace Go.Proofs.YtgipddeldddbnaaGreat
open Go Go.RowKit

theorem InB.up {w w' : World} {a : Option Addr} {n : Nat} {zs : List Int} (h : InB w w.heap.size a n zs) (hb : Below w.heap.size w w') : InB w' w'.heap.size a n zs := (h.below (Nat.le_refl _) hb).mono hb.size

theorem config_any {w : World} {a : Option Addr} {L : Nat} {zs : List Int} (h : InB w w.heap.size a L zs) (c : Nat) :
    Calls Tryz.prog 5 #[.slice a L c] w (Decoded zs w) := by
  have H := Lib.hid (h.up (below_one w (.cells zero11 30)))
  have B0 := Lib.hid (below_one w (.cells zero11 30))
  have Z0 := Lib.hid (Blk.made w 30 zero11)
  have hsz : (w.alloc (.cells zero11 30)).heap.size = w.heap.size + 1 := by simp
  clear h
  go_enter Tryz.func5, Tryz.ntmps5
  go_wp2_with fail
  (with_reducible refine (rdecode_any H.out c).mono ?_)
  rintro e w1 ⟨v, rfl, hcfg, hb⟩
  obtain ⟨pa, pn, pc, sa, sn, sc, rfl, h1, h2, h3, h4⟩ := hcfg
  obtain ⟨d, hd⟩ : ∃ d, decC (strm zs) = d := ⟨_, rfl⟩
  rw [hd] at h1 h2 h3 h4 ⊢
  have HDD := Lib.hid hd
  have HC := Lib.hid (And.intro h1 (And.intro h2 (And.intro h3 h4)))
  have HS := Lib.hid hsz
  have HB := Lib.hid (B0.out.trans (hb.mono B0.out.size))
  have Z1 := Lib.hid (Z0.out.below hb)
  clear h1 h2 h3 h4 hb hsz hd
  obtain ⟨d0, d1, d2, d3, d4, d5, d6, d7, d8, d9, d10⟩ := (⟨Z1.out.at_ 0, Z1.out.at_ 1, Z1.out.at_ 2, Z1.out.at_ 3, Z1.out.at_ 4, Z1.out.at_ 5, Z1.out.at_ 6, Z1.out.at_ 7, Z1.out.at_ 8, Z1.out.at_ 9, Z1.out.at_ 10⟩ : _ ∧ _ ∧ _ ∧ _ ∧ _ ∧ _ ∧ _ ∧ _ ∧ _ ∧ _ ∧ _)
  obtain ⟨g0, g1, g2, g3, g4, g5, g6, g7, g8, g9, g10⟩ := (⟨Z1.out.free 0, Z1.out.free 1, Z1.out.free 2, Z1.out.free 3, Z1.out.free 4, Z1.out.free 5, Z1.out.free 6, Z1.out.free 7, Z1.out.free 8, Z1.out.free 9, Z1.out.free 10⟩ : _ ∧ _ ∧ _ ∧ _ ∧ _ ∧ _ ∧ _ ∧ _ ∧ _ ∧ _ ∧ _)
  simp only [List.getElem?_toArray, List.getElem?_cons_zero, List.getElem?_cons_succ] at d0 d1 d2 d3 d4 d5 d6 d7 d8 d9 d10
  go_wp2
  have hD := Z1.out.put11 (.int .i64 d.wo) (.int .i64 d.le) (.int .i64 d.cl) (.int .i64 d.ta) (.int .i64 d.de) (.int .i64 d.he) (.int .i64 d.ba) (.int .i64 d.ag) (.int .i64 d.pa) (.slice pa pn pc) (.slice sa sn sc)
  have hF := fr11 w1 w.heap.size (.int .i64 d.wo) (.int .i64 d.le) (.int .i64 d.cl) (.int .i64 d.ta) (.int .i64 d.de) (.int .i64 d.he) (.int .i64 d.ba) (.int .i64 d.ag) (.int .i64 d.pa) (.slice pa pn pc) (.slice sa sn sc)
  refine bodyPost_ret (results_cell_row (P := Tryz.prog) Tryz.results5 _ _ w.heap.size 30 _ (0, 0) _ rfl hD Tryz.underlying30 rfl (by kernel_rfl)) rfl ?_
  obtain ⟨h1, h2, h3, h4⟩ := HC.out
  have hs := HS.out
  have hS : ∀ s, s ∈ [w.heap.size] → s < (w.alloc (.cells zero11 30)).heap.size := fun s hs' => by simp at hs'; omega
  have hS' : ∀ s, s ∈ [w.heap.size] → ¬ (w.alloc (.cells zero11 30)).heap.size ≤ s := fun s hs' => by have := hS s hs'; omega
  have hle : w.heap.size ≤ (w.alloc (.cells zero11 30)).heap.size := by omega
  have k1 := h1.fr hF (fun s hs' => by have := hS s hs'; omega)
  have k2 := h2.fr hF (fun s hs' => by have := hS s hs'; omega)
  obtain ⟨_, pc', e1, hp, _⟩ := k1.form
  obtain ⟨_, sc', e2, hss, _⟩ := k2.form
  cases e1
  cases e2
  unfold Decoded
  rw [HDD.out]
  exact ⟨_, rfl, ⟨pa, _, pc, sa, _, sc, rfl, k1.mono hle, k2.mono hle, hp.mono hle, hss.mono hle⟩, HB.out.trans (hF.below HB.out.size (fun k hk => by simp at hk; omega))⟩

end Go.Proofs.YtgipddeldddbnaaGreat

namespace Go.Proofs.YtgipddeldddbnaaGreat
open Go Go.RowKit Go.Shelf
set_option linter.unusedSimpArgs false
set_option linter.unusedVariables false

/-- One worker, n levels, k entries of a deque. -/
def twoC (n k : Nat) : Cfg := { decC (strm []) with le := n, de := k }
theorem two_ok : ∀ n : Fin 5, ∀ k : Fin 4, chk (twoC (n.val + 1) (k.val + 1)) = 0 := by decide +kernel
theorem two_chk {n k : Nat} (hn : 1 ≤ n ∧ n ≤ 5) (hk : 1 ≤ k ∧ k ≤ 4) : chk (twoC n k) = 0 := by
  have := two_ok ⟨n - 1, by omega⟩ ⟨k - 1, by omega⟩
  rw [show n - 1 + 1 = n by omega, show k - 1 + 1 = k by omega] at this
  exact this
theorem two_nums : (decC (strm [])).wo = 1 ∧ (decC (strm [])).cl = 1 ∧ (decC (strm [])).he = 1 ∧ (decC (strm [])).ta = 1 := by decide +kernel
theorem two_lv {n k : Nat} (hn : 1 ≤ n ∧ n ≤ 64) (hk : 1 ≤ k ∧ k ≤ 64) : LvC (twoC n k) n k 7 8 := by
  obtain ⟨e1, e2, e3, e4⟩ := two_nums
  have f1 : (twoC n k).wo = 1 := e1
  have f2 : (twoC n k).cl = 1 := e2
  have f3 : (twoC n k).he = 1 := e3
  have f4 : (twoC n k).le = n := rfl
  have f5 : (twoC n k).de = k := rfl
  refine ⟨fun a ha => ?_, ?_, by omega, by omega, hn, hk⟩
  · unfold rQueue
    rw [if_pos (show qIn (twoC n k) 0 a from ⟨Int.le_refl _, by rw [f1]; decide, by omega, by rw [f4]; omega⟩)]
    have : rAt (twoC n k) 0 a = ((8 + a * (2 + k) : Nat) : Int) := by
      unfold rAt rDeques
      rw [f1, f2, f3, f4, f5]
      simp
    rw [this, f5]
    rfl
  · unfold rBitmap ixs
    rw [f1, f2, f3]
    rfl

/-- A new memory holds nothing. -/
theorem new_old (n : Nat) (j : Int) : (St.new n).old j = 0 := by
  unfold St.old
  split
  · show (List.replicate n (0 : Int)).getD _ 0 = 0
    rw [List.getD_eq_getElem?_getD, List.getElem?_replicate]
    split <;> rfl
  · rfl
theorem new_U (n : Nat) : (St.new n).U := fun j => by rw [new_old]; exact uw_zero
theorem two_cells {n k : Nat} : (rCells (twoC n k)).toNat = 13 + n * (2 + k) := by
  obtain ⟨e1, e2, e3, e4⟩ := two_nums
  have f1 : (twoC n k).wo = 1 := e1
  have f2 : (twoC n k).cl = 1 := e2
  have f3 : (twoC n k).he = 1 := e3
  have f6 : (twoC n k).ta = 1 := e4
  have f4 : (twoC n k).le = n := rfl
  have f5 : (twoC n k).de = k := rfl
  unfold rCells rDeques rAll
  rw [f1, f2, f3, f4, f5, f6, Int.one_mul]
  have : ((n : Int) * (2 + (k : Int))) = ((n * (2 + k) : Nat) : Int) := by simp
  rw [this]
  omega
/-- A worker's deques in a new memory are empty. -/
theorem lvtwo_new {n k : Nat} (hn : 1 ≤ n ∧ n ≤ 64) (hk : 1 ≤ k ∧ k ≤ 64) : LvI (twoC n k) n k 7 8 (St.new (rCells (twoC n k)).toNat) (fun _ => 0) (fun _ => []) 0 := by
  have hc := two_lv hn hk
  refine ⟨fun a ha => ⟨by have := hc.small ha; omega, ?_, by rw [new_old]; rfl, by rw [new_old]; rfl, Nat.zero_le _, fun i hi => absurd hi (by simp), by omega⟩, ⟨0, by rw [new_old]; rfl, by decide, fun a ha hne => absurd rfl hne, fun a ha => Nat.zero_testBit a⟩, new_U _, fun a ha => by simp⟩
  show _ ≤ (List.replicate _ (0 : Int)).length
  rw [List.length_replicate, two_cells]
  have := hc.far (show a < n by omega)
  have h2 : a * (2 + k) + (2 + k) ≤ n * (2 + k) := by
    have := Nat.mul_le_mul_right (2 + k) (show a + 1 ≤ n by omega)
    rw [Nat.add_mul] at this
    omega
  omega

/-- An environment of the program with the configuration c. -/
structure EW (w0 : World) (p m k g cap : Nat) (c : Cfg) (hd : List Value) (rv ev : Value) (s : St) (w : World) : Prop where
  e : PE w p m k g cap s 0 0 hd rv ev
  l : LayHd hd c
  i : CfgIn c
  u : s.U
  b : Below w0.heap.size w0 w
  lo : w0.heap.size ≤ p ∧ w0.heap.size ≤ m ∧ w0.heap.size ≤ k ∧ w0.heap.size ≤ g
section
variable {w0 w w' : World} {p m k g cap : Nat} {c : Cfg} {hd : List Value} {rv ev : Value} {s s' : St}
theorem EW.below (h : EW w0 p m k g cap c hd rv ev s w) (hb : Below w.heap.size w w') : EW w0 p m k g cap c hd rv ev s w' :=
  ⟨h.e.below hb, h.l, h.i, h.u, h.b.trans (hb.mono h.b.size), h.lo⟩
/-- A machine that was made behind w0 has run alone. -/
theorem EW.done (h : EW w0 p m k g cap c hd rv ev s w) {b : Nat} (hb : w0.heap.size ≤ b) (hp : PE w' p m k g cap s' 0 0 hd rv ev) (hf : Fr [m, g, b] w w') (hu : s'.U) : EW w0 p m k g cap c hd rv ev s' w' :=
  ⟨hp, h.l, h.i, hu, below_of_fr h.b hf (fun y hy => by
    simp only [List.mem_cons, List.not_mem_nil, or_false] at hy
    have := h.lo
    rcases hy with rfl | rfl | rfl <;> omega), h.lo⟩
end
/-- Alone keeps words what they are. -/
theorem RunM_U {c : Cfg} {s s' : St} {x : Fra × Option Fra} {r : Res} {n : Nat} (h : RunM (lvS c) s x s' r n) : s.U → XU x → s'.U := by
  induction h with
  | last _ => exact fun hs hx => (lvS_U hs hx).1
  | cons _ _ ih => exact fun hs hx => ih (lvS_U hs hx).1 (lvS_U hs hx).2

theorem layHd_new (c : Cfg) (pa : Option Addr) (pn pc : Nat) (sa : Option Addr) (sn sc : Nat) : LayHd (hdC c pa pn pc sa sn sc 4 (4 + c.he) (4 + c.he + c.cl) (4 + c.he + c.cl + c.wo) (rDeques c) (rDeques c + rAll c) (rCells c) c.le c.de) c :=
  ⟨fun j hj =>
  match j, hj with
  | 0, _ => rfl
  | 1, _ => rfl
  | 2, _ => rfl
  | 3, _ => rfl
  | 4, _ => rfl
  | 5, _ => rfl
  | 6, _ => rfl
  | 7, _ => rfl
  | 8, _ => rfl, fun j hj =>
  match j, hj with
  | 0, _ => rfl
  | 1, _ => rfl
  | 2, _ => rfl
  | 3, _ => rfl
  | 4, _ => rfl
  | 5, _ => rfl
  | 6, _ => rfl
  | 7, _ => rfl
  | 8, _ => rfl⟩
/-- What New gives for a valid configuration. -/
def ENewed (c : Cfg) (w : World) (e : Ending) (w' : World) : Prop :=
  ∃ p m k g hd rv, e = .returned (.tuple #[.pointer (some ⟨p, 0, none⟩), .int .i64 0]) ∧ EW w p m k g (rCells c).toNat c hd rv (.slice none 0 0) (St.new (rCells c).toNat) w'
theorem enew_any {w : World} {B : Nat} {c : Cfg} {pa : Option Addr} {pn : Nat} {sa : Option Addr} {sn : Nat} (h : Lists w B c pa pn sa sn) (pc sc : Nat) (hc : chk c = 0) : Calls Tryz.prog 4 #[cv c pa pn pc sa sn sc] w (ENewed c w) := by
  obtain ⟨_, hk2, hk3, hk4⟩ := chk_ok hc
  have hbn : pn ≤ 1000 ∧ sn ≤ 1000 := by
    have e1 := h.pr.1
    have e2 := h.su.1
    have := hk2
    simp only [inB, Bool.and_eq_true, decide_eq_true_eq] at this
    omega
  refine (pnew_yes h pc sc hc hbn.1 hbn.2 (fun x hx => Nat.le_trans (chkPs_ok hk3 x hx).1 (by decide))).mono ?_
  rintro e w2 ⟨p, m, k, g, qa, qn, qc, ta, tn, tc, rv, rfl, hp, _, _, _, hb, l1, l2, l3, l4⟩
  exact ⟨p, m, k, g, _, rv, rfl, hp, layHd_new c qa qn qc ta tn tc, cfgIn_chk hc, new_U _, hb, l1, l2, l3, l4⟩

/-- What two gives. -/
def TwoG (n k : Nat) (w : World) (e : Ending) (w' : World) : Prop :=
  ∃ pa pn pc sa sn sc, e = .returned (cv (twoC n k) pa pn pc sa sn sc) ∧ Lists w' 0 (twoC n k) pa pn sa sn ∧ Below w.heap.size w w'
end Go.Proofs.YtgipddeldddbnaaGreat
