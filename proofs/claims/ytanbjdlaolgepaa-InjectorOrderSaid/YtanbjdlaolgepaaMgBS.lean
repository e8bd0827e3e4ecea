/-
  The laws of levels: the configuration with one worker, an environment of the program made by New, what a machine alone leaves of it.
  The laws of injector: their configuration. (Made out of LvW's two.)
-/
import Derived.Test.YtanbjdlaolgepaaMgBC
import Derived.Test.YtanbjdlaolgepaaLvM
import Derived.Test.YtanbjdlaolgepaaMcN
import Derived.Test.YtanbjdlaolgepaaMgBR
import Derived.Test.YtanbjdlaolgepaaInjT
namespace Go.Proofs.Ytanbjdlaolgepaa
open Go Go.RowKit Go.Shelf
set_option linter.unusedSimpArgs false
set_option linter.unusedVariables false

/-- One worker, n levels, k entries of a deque. -/
def twoC (n k : Nat) : Cfg := { decC (strm []) with le := n, de := k }
theorem two_ok : ∀ n : Fin 5, ∀ k : Fin 4, chk (twoC (n.val + 1) (k.val + 1)) = 0 := by decide +kernel
theorem two_chk {n k : Nat} (hn : 1 ≤ n ∧ n ≤ 5) (hk : 1 ≤ k ∧ k ≤ 4) : chk (twoC n k) = 0 := by
  have := two_ok ⟨n - 1, by omega⟩ ⟨k - 1, by omega⟩
  rw [show n - 1 + 1 = n by omega, show k - 1 + 1 = k by omega] at this
  exact this
theorem two_nums : (decC (strm [])).wo = 1 ∧ (decC (strm [])).cl = 1 ∧ (decC (strm [])).he = 1 ∧ (decC (strm [])).ta = 1 := by decide +kernel
theorem two_lv {n k : Nat} (hn : 1 ≤ n ∧ n ≤ 64) (hk : 1 ≤ k ∧ k ≤ 64) : LvC (twoC n k) n k 7 8 := by
  obtain ⟨e1, e2, e3, e4⟩ := two_nums
  have f1 : (twoC n k).wo = 1 := e1
  have f2 : (twoC n k).cl = 1 := e2
  have f3 : (twoC n k).he = 1 := e3
  have f4 : (twoC n k).le = n := rfl
  have f5 : (twoC n k).de = k := rfl
  refine ⟨fun a ha => ?_, ?_, by omega, by omega, hn, hk⟩
  · unfold rQueue
    rw [if_pos (show qIn (twoC n k) 0 a from ⟨Int.le_refl _, by rw [f1]; decide, by omega, by rw [f4]; omega⟩)]
    have : rAt (twoC n k) 0 a = ((8 + a * (2 + k) : Nat) : Int) := by
      unfold rAt rDeques
      rw [f1, f2, f3, f4, f5]
      simp
    rw [this, f5]
    rfl
  · unfold rBitmap ixs
    rw [f1, f2, f3]
    rfl

/-- A new memory holds nothing. -/
theorem new_old (n : Nat) (j : Int) : (St.new n).old j = 0 := by
  unfold St.old
  split
  · show (List.replicate n (0 : Int)).getD _ 0 = 0
    rw [List.getD_eq_getElem?_getD, List.getElem?_replicate]
    split <;> rfl
  · rfl
theorem new_U (n : Nat) : (St.new n).U := fun j => by rw [new_old]; exact uw_zero
theorem two_cells {n k : Nat} : (rCells (twoC n k)).toNat = 13 + n * (2 + k) := by
  obtain ⟨e1, e2, e3, e4⟩ := two_nums
  have f1 : (twoC n k).wo = 1 := e1
  have f2 : (twoC n k).cl = 1 := e2
  have f3 : (twoC n k).he = 1 := e3
  have f6 : (twoC n k).ta = 1 := e4
  have f4 : (twoC n k).le = n := rfl
  have f5 : (twoC n k).de = k := rfl
  unfold rCells rDeques rAll
  rw [f1, f2, f3, f4, f5, f6, Int.one_mul]
  have : ((n : Int) * (2 + (k : Int))) = ((n * (2 + k) : Nat) : Int) := by simp
  rw [this]
  omega
/-- A worker's deques in a new memory are empty. -/
theorem lvtwo_new {n k : Nat} (hn : 1 ≤ n ∧ n ≤ 64) (hk : 1 ≤ k ∧ k ≤ 64) : LvI (twoC n k) n k 7 8 (St.new (rCells (twoC n k)).toNat) (fun _ => 0) (fun _ => []) 0 := by
  have hc := two_lv hn hk
  refine ⟨fun a ha => ⟨by have := hc.small ha; omega, ?_, by rw [new_old]; rfl, by rw [new_old]; rfl, Nat.zero_le _, fun i hi => absurd hi (by simp), by omega⟩, ⟨0, by rw [new_old]; rfl, by decide, fun a ha hne => absurd rfl hne, fun a ha => Nat.zero_testBit a⟩, new_U _, fun a ha => by simp⟩
  show _ ≤ (List.replicate _ (0 : Int)).length
  rw [List.length_replicate, two_cells]
  have := hc.far (show a < n by omega)
  have h2 : a * (2 + k) + (2 + k) ≤ n * (2 + k) := by
    have := Nat.mul_le_mul_right (2 + k) (show a + 1 ≤ n by omega)
    rw [Nat.add_mul] at this
    omega
  omega

/-- An environment of the program with the configuration c. -/
structure EW (w0 : World) (p m k g cap : Nat) (c : Cfg) (hd : List Value) (rv ev : Value) (s : St) (w : World) : Prop where
  e : PE w p m k g cap s 0 0 hd rv ev
  l : LayHd hd c
  i : CfgIn c
  u : s.U
  b : Below w0.heap.size w0 w
  lo : w0.heap.size ≤ p ∧ w0.heap.size ≤ m ∧ w0.heap.size ≤ k ∧ w0.heap.size ≤ g
section
variable {w0 w w' : World} {p m k g cap : Nat} {c : Cfg} {hd : List Value} {rv ev : Value} {s s' : St}
theorem EW.below (h : EW w0 p m k g cap c hd rv ev s w) (hb : Below w.heap.size w w') : EW w0 p m k g cap c hd rv ev s w' :=
  ⟨h.e.below hb, h.l, h.i, h.u, h.b.trans (hb.mono h.b.size), h.lo⟩
/-- A machine that was made behind w0 has run alone. -/
theorem EW.done (h : EW w0 p m k g cap c hd rv ev s w) {b : Nat} (hb : w0.heap.size ≤ b) (hp : PE w' p m k g cap s' 0 0 hd rv ev) (hf : Fr [m, g, b] w w') (hu : s'.U) : EW w0 p m k g cap c hd rv ev s' w' :=
  ⟨hp, h.l, h.i, hu, below_of_fr h.b hf (fun y hy => by
    simp only [List.mem_cons, List.not_mem_nil, or_false] at hy
    have := h.lo
    rcases hy with rfl | rfl | rfl <;> omega), h.lo⟩
end
/-- Alone keeps words what they are. -/
theorem RunM_U {c : Cfg} {s s' : St} {x : Fra × Option Fra} {r : Res} {n : Nat} (h : RunM (lvS c) s x s' r n) : s.U → XU x → s'.U := by
  induction h with
  | last _ => exact fun hs hx => (lvS_U hs hx).1
  | cons _ _ ih => exact fun hs hx => ih (lvS_U hs hx).1 (lvS_U hs hx).2

theorem layHd_new (c : Cfg) (pa : Option Addr) (pn pc : Nat) (sa : Option Addr) (sn sc : Nat) : LayHd (hdC c pa pn pc sa sn sc 4 (4 + c.he) (4 + c.he + c.cl) (4 + c.he + c.cl + c.wo) (rDeques c) (rDeques c + rAll c) (rCells c) c.le c.de) c :=
  ⟨fun j hj =>
  match j, hj with
  | 0, _ => rfl
  | 1, _ => rfl
  | 2, _ => rfl
  | 3, _ => rfl
  | 4, _ => rfl
  | 5, _ => rfl
  | 6, _ => rfl
  | 7, _ => rfl
  | 8, _ => rfl, fun j hj =>
  match j, hj with
  | 0, _ => rfl
  | 1, _ => rfl
  | 2, _ => rfl
  | 3, _ => rfl
  | 4, _ => rfl
  | 5, _ => rfl
  | 6, _ => rfl
  | 7, _ => rfl
  | 8, _ => rfl⟩
/-- What New gives for a valid configuration. -/
def ENewed (c : Cfg) (w : World) (e : Ending) (w' : World) : Prop :=
  ∃ p m k g hd rv, e = .returned (.tuple #[.pointer (some ⟨p, 0, none⟩), .int .i64 0]) ∧ EW w p m k g (rCells c).toNat c hd rv (.slice none 0 0) (St.new (rCells c).toNat) w'
theorem enew_any {w : World} {B : Nat} {c : Cfg} {pa : Option Addr} {pn : Nat} {sa : Option Addr} {sn : Nat} (h : Lists w B c pa pn sa sn) (pc sc : Nat) (hc : chk c = 0) : Calls Try.prog 6 #[cv c pa pn pc sa sn sc] w (ENewed c w) := by
  obtain ⟨_, hk2, hk3, hk4⟩ := chk_ok hc
  have hbn : pn ≤ 1000 ∧ sn ≤ 1000 := by
    have e1 := h.pr.1
    have e2 := h.su.1
    have := hk2
    simp only [inB, Bool.and_eq_true, decide_eq_true_eq] at this
    omega
  refine (pnew_yes h pc sc hc hbn.1 hbn.2 (fun x hx => Nat.le_trans (chkPs_ok hk3 x hx).1 (by decide))).mono ?_
  rintro e w2 ⟨p, m, k, g, qa, qn, qc, ta, tn, tc, rv, rfl, hp, _, _, _, hb, l1, l2, l3, l4⟩
  exact ⟨p, m, k, g, _, rv, rfl, hp, layHd_new c qa qn qc ta tn tc, cfgIn_chk hc, new_U _, hb, l1, l2, l3, l4⟩

/-- What two gives. -/
def TwoG (n k : Nat) (w : World) (e : Ending) (w' : World) : Prop :=
  ∃ pa pn pc sa sn sc, e = .returned (cv (twoC n k) pa pn pc sa sn sc) ∧ Lists w' 0 (twoC n k) pa pn sa sn ∧ Below w.heap.size w w'
end Go.Proofs.Ytanbjdlaolgepaa

namespace Go.Proofs.Ytanbjdlaolgepaa
open Go Go.RowKit Go.Shelf
set_option linter.unusedSimpArgs false
set_option linter.unusedVariables false

/-- The configuration whose injector has n places. -/
def roomC (n : Nat) : Cfg := { decC (strm []) with he := n, ta := 256 }
theorem room_ok : ∀ n : Fin 64, chk (roomC (n.val + 1)) = 0 := by decide +kernel
theorem room_chk {n : Nat} (hn : 1 ≤ n ∧ n ≤ 64) : chk (roomC n) = 0 := by
  have := room_ok ⟨n - 1, by omega⟩
  rwa [show n - 1 + 1 = n by omega] at this
theorem room_in {n : Nat} (hn : 1 ≤ n ∧ n ≤ 64) : CfgIn (roomC n) := cfgIn_chk (room_chk hn)
theorem room_he (n : Nat) : (roomC n).he = n := rfl
/-- A new memory's injector is empty. -/
theorem new_inj {c : Cfg} (hin : CfgIn c) : InjH c [] 0 (St.new (rCells c).toNat) :=
  ⟨⟨new_U _, by unfold St.new; simp⟩, by have := hin.he; simp; omega, new_old _ _, new_old _ _, fun j hj => absurd hj (by simp)⟩
/-- What room gives. -/
def RoomG (n : Nat) (w : World) (e : Ending) (w' : World) : Prop :=
  ∃ pa pn pc sa sn sc, e = .returned (cv (roomC n) pa pn pc sa sn sc) ∧ Lists w' 0 (roomC n) pa pn sa sn ∧ Below w.heap.size w w'
set_option maxRecDepth 100000 in
set_option maxHeartbeats 4000000 in
theorem room_any (n : Nat) (w : World) : Calls Try.prog 5 #[.int .i64 n] w (RoomG n w) := by
  have HI := Lib.hid (show InB (w.alloc (.cells zero11 26)) (w.alloc (.cells zero11 26)).heap.size none 0 [] from ⟨rfl, by unfold maxLen; simp, fun i hi => absurd hi (by omega)⟩)
  have B0 := Lib.hid (below_one w (.cells zero11 26))
  have Z0 := Lib.hid (Blk.made w 26 zero11)
  go_enter Try.func5, Try.ntmps5
  go_wp2_with fail
  (with_reducible refine (config_any HI.out 0).mono ?_)
  rintro e w1 ⟨v, rfl, hcfg, hb⟩
  obtain ⟨pa, pn, pc, sa, sn, sc, rfl, ho1, ho2, hl⟩ := hcfg
  obtain ⟨d, hd⟩ : ∃ d, decC (strm []) = d := ⟨_, rfl⟩
  rw [hd] at ho1 ho2 ⊢
  have HDD := Lib.hid hd
  have HL := Lib.hid (And.intro ho1 ho2)
  have hsz : (w.alloc (.cells zero11 26)).heap.size = w.heap.size + 1 := by simp
  rw [hsz] at HL
  have B1 := Lib.hid (B0.out.trans (hb.mono B0.out.size))
  have Z1 := Lib.hid (Z0.out.below hb)
  clear hd hl hb HI B0 Z0 ho1 ho2 hsz
  go_upto_region 2 with fail
  have X2 := Lib.hid (Blk.made w1 26 (cc d pa pn pc sa sn sc))
  have B2 := Lib.hid (B1.out.alloc B1.out.size (.cells (cc d pa pn pc sa sn sc) 26))
  have Z2 := Lib.hid (Z1.out.alloc (.cells (cc d pa pn pc sa sn sc) 26))
  have L2 := Lib.hid (show Below w1.heap.size w1 (w1.alloc (.cells (cc d pa pn pc sa sn sc) 26)) from below_one w1 _)
  have hlt : w.heap.size < w1.heap.size := Z1.out.lt
  generalize w1.alloc (.cells (cc d pa pn pc sa sn sc) 26) = W at *
  generalize hg : w1.heap.size = g at *
  have x5 := X2.out.at_ 5
  have x3 := X2.out.at_ 3
  have f5 := X2.out.free 5
  have f3 := X2.out.free 3
  have hX3 := (X2.out.put 5 (.int .i64 n)).put 3 (.int .i64 256)
  simp only [List.setIfInBounds_toArray, List.set_cons_zero, List.set_cons_succ] at hX3
  have hf3 : Fr [g] W ((W.setCell ⟨g, 5, none⟩ (.int .i64 n)).setCell ⟨g, 3, none⟩ (.int .i64 256)) := ((Fr.refl _ _).setCell (by simp) _).setCell (by simp) _
  have X3 := Lib.hid (show Blk ((W.setCell ⟨g, 5, none⟩ (.int .i64 n)).setCell ⟨g, 3, none⟩ (.int .i64 256)) g 26 (cc { d with he := n, ta := 256 } pa pn pc sa sn sc) from hX3)
  have Z3 := Lib.hid (Z2.out.of_same (hf3.block _ Z2.out.lt (by simp; omega)))
  have HF := Lib.hid hf3
  have HG := Lib.hid hg
  clear hX3 hf3 hg
  go_upto_region 3 with fail
  generalize (W.setCell ⟨g, 5, none⟩ (.int .i64 n)).setCell ⟨g, 3, none⟩ (.int .i64 256) = W3 at *
  clear x5 x3 f5 f3
  obtain ⟨x0, x1, x2, x3, x4, x5, x6, x7, x8, x9, x10⟩ := eleven X3.out
  obtain ⟨d0, d1, d2, d3, d4, d5, d6, d7, d8, d9, d10⟩ := (⟨Z3.out.at_ 0, Z3.out.at_ 1, Z3.out.at_ 2, Z3.out.at_ 3, Z3.out.at_ 4, Z3.out.at_ 5, Z3.out.at_ 6, Z3.out.at_ 7, Z3.out.at_ 8, Z3.out.at_ 9, Z3.out.at_ 10⟩ : _ ∧ _ ∧ _ ∧ _ ∧ _ ∧ _ ∧ _ ∧ _ ∧ _ ∧ _ ∧ _)
  obtain ⟨g0, g1, g2, g3, g4, g5, g6, g7, g8, g9, g10⟩ := (⟨Z3.out.free 0, Z3.out.free 1, Z3.out.free 2, Z3.out.free 3, Z3.out.free 4, Z3.out.free 5, Z3.out.free 6, Z3.out.free 7, Z3.out.free 8, Z3.out.free 9, Z3.out.free 10⟩ : _ ∧ _ ∧ _ ∧ _ ∧ _ ∧ _ ∧ _ ∧ _ ∧ _ ∧ _ ∧ _)
  go_wp2
  have hD := Z3.out.put11 (.int .i64 d.wo) (.int .i64 d.le) (.int .i64 d.cl) (.int .i64 256) (.int .i64 d.de) (.int .i64 n) (.int .i64 d.ba) (.int .i64 d.ag) (.int .i64 d.pa) (.slice pa pn pc) (.slice sa sn sc)
  have hF := fr11 W3 w.heap.size (.int .i64 d.wo) (.int .i64 d.le) (.int .i64 d.cl) (.int .i64 256) (.int .i64 d.de) (.int .i64 n) (.int .i64 d.ba) (.int .i64 d.ag) (.int .i64 d.pa) (.slice pa pn pc) (.slice sa sn sc)
  refine bodyPost_ret (results_cell_row (P := Try.prog) Try.results5 _ _ w.heap.size 26 _ (0, 0) _ rfl hD Try.underlying26 rfl (by kernel_rfl)) rfl ?_
  have hb3' : Below g w1 W3 := L2.out.trans (HF.out.below (Nat.le_of_lt X2.out.lt) (fun y hy => by simp at hy; omega))
  have hb3 : Below w1.heap.size w1 W3 := by rw [HG.out]; exact hb3'
  have k1 := (HL.out.1.below hb3).fr hF (fun s hs => by simp at hs; omega)
  have k2 := (HL.out.2.below hb3).fr hF (fun s hs => by simp at hs; omega)
  obtain ⟨_, pc', e1, hp, _⟩ := k1.form
  obtain ⟨_, sc', e2, hss, _⟩ := k2.form
  cases e1
  cases e2
  have hw : Below w.heap.size w W3 := B1.out.trans (hb3'.mono (Nat.le_of_lt hlt))
  refine ⟨pa, d.pr.length, pc, sa, d.su.length, sc, ?_, ⟨?_, ?_⟩, hw.trans (hF.below hw.size (fun y hy => by simp at hy; omega))⟩
  · show Ending.returned (.agg (cc { d with he := n, ta := 256 } pa d.pr.length pc sa d.su.length sc)) = _
    rw [← HDD.out]
    rfl
  · show Prgs _ 0 pa _ (decC (strm [])).pr
    rw [HDD.out]
    exact hp.mono (Nat.zero_le _)
  · show Tris _ 0 sa _ (decC (strm [])).su
    rw [HDD.out]
    exact hss.mono (Nat.zero_le _)
end Go.Proofs.Ytanbjdlaolgepaa
