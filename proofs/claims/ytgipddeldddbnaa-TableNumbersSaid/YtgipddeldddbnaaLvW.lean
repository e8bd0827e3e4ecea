/-
  The laws of levels: the configuration with one worker, an environment of the program made by New, what a machine alone leaves of it.
-/
import Derived.Test.YtgipddeldddbnaaMgBG
import Derived.Test.YtgipddeldddbnaaLvM
import Derived.Test.YtgipddeldddbnaaMcN
import Derived.Test.YtgipddeldddbnaaMgBW
namespace Go.Proofs.Ytgipddeldddbnaa
open Go Go.RowKit Go.Shelf
set_option linter.unusedSimpArgs false
set_option linter.unusedVariables false

/-- One worker, n levels, k entries of a deque. -/
def twoC (n k : Nat) : Cfg := { decC (strm []) with le := n, de := k }
theorem two_ok : ∀ n : Fin 5, ∀ k : Fin 4, chk (twoC (n.val + 1) (k.val + 1)) = 0 := by decide +kernel
theorem two_chk {n k : Nat} (hn : 1 ≤ n ∧ n ≤ 5) (hk : 1 ≤ k ∧ k ≤ 4) : chk (twoC n k) = 0 := by
  have := two_ok ⟨n - 1, by omega⟩ ⟨k - 1, by omega⟩
  rw [show n - 1 + 1 = n by omega, show k - 1 + 1 = k by omega] at this
  exact this
theorem two_nums : (decC (strm [])).wo = 1 ∧ (decC (strm [])).cl = 1 ∧ (decC (strm [])).he = 1 ∧ (decC (strm [])).ta = 1 := by decide +kernel
theorem two_lv {n k : Nat} (hn : 1 ≤ n ∧ n ≤ 64) (hk : 1 ≤ k ∧ k ≤ 64) : LvC (twoC n k) n k 7 8 := by
  obtain ⟨e1, e2, e3, e4⟩ := two_nums
  have f1 : (twoC n k).wo = 1 := e1
  have f2 : (twoC n k).cl = 1 := e2
  have f3 : (twoC n k).he = 1 := e3
  have f4 : (twoC n k).le = n := rfl
  have f5 : (twoC n k).de = k := rfl
  refine ⟨fun a ha => ?_, ?_, by omega, by omega, hn, hk⟩
  · unfold rQueue
    rw [if_pos (show qIn (twoC n k) 0 a from ⟨Int.le_refl _, by rw [f1]; decide, by omega, by rw [f4]; omega⟩)]
    have : rAt (twoC n k) 0 a = ((8 + a * (2 + k) : Nat) : Int) := by
      unfold rAt rDeques
      rw [f1, f2, f3, f4, f5]
      simp
    rw [this, f5]
    rfl
  · unfold rBitmap ixs
    rw [f1, f2, f3]
    rfl

/-- A new memory holds nothing. -/
theorem new_old (n : Nat) (j : Int) : (St.new n).old j = 0 := by
  unfold St.old
  split
  · show (List.replicate n (0 : Int)).getD _ 0 = 0
    rw [List.getD_eq_getElem?_getD, List.getElem?_replicate]
    split <;> rfl
  · rfl
theorem new_U (n : Nat) : (St.new n).U := fun j => by rw [new_old]; exact uw_zero
theorem two_cells {n k : Nat} : (rCells (twoC n k)).toNat = 13 + n * (2 + k) := by
  obtain ⟨e1, e2, e3, e4⟩ := two_nums
  have f1 : (twoC n k).wo = 1 := e1
  have f2 : (twoC n k).cl = 1 := e2
  have f3 : (twoC n k).he = 1 := e3
  have f6 : (twoC n k).ta = 1 := e4
  have f4 : (twoC n k).le = n := rfl
  have f5 : (twoC n k).de = k := rfl
  unfold rCells rDeques rAll
  rw [f1, f2, f3, f4, f5, f6, Int.one_mul]
  have : ((n : Int) * (2 + (k : Int))) = ((n * (2 + k) : Nat) : Int) := by simp
  rw [this]
  omega
/-- A worker's deques in a new memory are empty. -/
theorem lvtwo_new {n k : Nat} (hn : 1 ≤ n ∧ n ≤ 64) (hk : 1 ≤ k ∧ k ≤ 64) : LvI (twoC n k) n k 7 8 (St.new (rCells (twoC n k)).toNat) (fun _ => 0) (fun _ => []) 0 := by
  have hc := two_lv hn hk
  refine ⟨fun a ha => ⟨by have := hc.small ha; omega, ?_, by rw [new_old]; rfl, by rw [new_old]; rfl, Nat.zero_le _, fun i hi => absurd hi (by simp), by omega⟩, ⟨0, by rw [new_old]; rfl, by decide, fun a ha hne => absurd rfl hne, fun a ha => Nat.zero_testBit a⟩, new_U _, fun a ha => by simp⟩
  show _ ≤ (List.replicate _ (0 : Int)).length
  rw [List.length_replicate, two_cells]
  have := hc.far (show a < n by omega)
  have h2 : a * (2 + k) + (2 + k) ≤ n * (2 + k) := by
    have := Nat.mul_le_mul_right (2 + k) (show a + 1 ≤ n by omega)
    rw [Nat.add_mul] at this
    omega
  omega

/-- An environment of the program with the configuration c. -/
structure EW (w0 : World) (p m k g cap : Nat) (c : Cfg) (hd : List Value) (rv ev : Value) (s : St) (w : World) : Prop where
  e : PE w p m k g cap s 0 0 hd rv ev
  l : LayHd hd c
  i : CfgIn c
  u : s.U
  b : Below w0.heap.size w0 w
  lo : w0.heap.size ≤ p ∧ w0.heap.size ≤ m ∧ w0.heap.size ≤ k ∧ w0.heap.size ≤ g
section
variable {w0 w w' : World} {p m k g cap : Nat} {c : Cfg} {hd : List Value} {rv ev : Value} {s s' : St}
theorem EW.below (h : EW w0 p m k g cap c hd rv ev s w) (hb : Below w.heap.size w w') : EW w0 p m k g cap c hd rv ev s w' :=
  ⟨h.e.below hb, h.l, h.i, h.u, h.b.trans (hb.mono h.b.size), h.lo⟩
/-- A machine that was made behind w0 has run alone. -/
theorem EW.done (h : EW w0 p m k g cap c hd rv ev s w) {b : Nat} (hb : w0.heap.size ≤ b) (hp : PE w' p m k g cap s' 0 0 hd rv ev) (hf : Fr [m, g, b] w w') (hu : s'.U) : EW w0 p m k g cap c hd rv ev s' w' :=
  ⟨hp, h.l, h.i, hu, below_of_fr h.b hf (fun y hy => by
    simp only [List.mem_cons, List.not_mem_nil, or_false] at hy
    have := h.lo
    rcases hy with rfl | rfl | rfl <;> omega), h.lo⟩
end
/-- Alone keeps words what they are. -/
theorem RunM_U {c : Cfg} {s s' : St} {x : Fra × Option Fra} {r : Res} {n : Nat} (h : RunM (lvS c) s x s' r n) : s.U → XU x → s'.U := by
  induction h with
  | last _ => exact fun hs hx => (lvS_U hs hx).1
  | cons _ _ ih => exact fun hs hx => ih (lvS_U hs hx).1 (lvS_U hs hx).2

theorem layHd_new (c : Cfg) (pa : Option Addr) (pn pc : Nat) (sa : Option Addr) (sn sc : Nat) : LayHd (hdC c pa pn pc sa sn sc 4 (4 + c.he) (4 + c.he + c.cl) (4 + c.he + c.cl + c.wo) (rDeques c) (rDeques c + rAll c) (rCells c) c.le c.de) c :=
  ⟨fun j hj =>
  match j, hj with
  | 0, _ => rfl
  | 1, _ => rfl
  | 2, _ => rfl
  | 3, _ => rfl
  | 4, _ => rfl
  | 5, _ => rfl
  | 6, _ => rfl
  | 7, _ => rfl
  | 8, _ => rfl, fun j hj =>
  match j, hj with
  | 0, _ => rfl
  | 1, _ => rfl
  | 2, _ => rfl
  | 3, _ => rfl
  | 4, _ => rfl
  | 5, _ => rfl
  | 6, _ => rfl
  | 7, _ => rfl
  | 8, _ => rfl⟩
/-- What New gives for a valid configuration. -/
def ENewed (c : Cfg) (w : World) (e : Ending) (w' : World) : Prop :=
  ∃ p m k g hd rv, e = .returned (.tuple #[.pointer (some ⟨p, 0, none⟩), .int .i64 0]) ∧ EW w p m k g (rCells c).toNat c hd rv (.slice none 0 0) (St.new (rCells c).toNat) w'
theorem enew_any {w : World} {B : Nat} {c : Cfg} {pa : Option Addr} {pn : Nat} {sa : Option Addr} {sn : Nat} (h : Lists w B c pa pn sa sn) (pc sc : Nat) (hc : chk c = 0) : Calls Try.prog 5 #[cv c pa pn pc sa sn sc] w (ENewed c w) := by
  obtain ⟨_, hk2, hk3, hk4⟩ := chk_ok hc
  have hbn : pn ≤ 1000 ∧ sn ≤ 1000 := by
    have e1 := h.pr.1
    have e2 := h.su.1
    have := hk2
    simp only [inB, Bool.and_eq_true, decide_eq_true_eq] at this
    omega
  refine (pnew_yes h pc sc hc hbn.1 hbn.2 (fun x hx => Nat.le_trans (chkPs_ok hk3 x hx).1 (by decide))).mono ?_
  rintro e w2 ⟨p, m, k, g, qa, qn, qc, ta, tn, tc, rv, rfl, hp, _, _, _, hb, l1, l2, l3, l4⟩
  exact ⟨p, m, k, g, _, rv, rfl, hp, layHd_new c qa qn qc ta tn tc, cfgIn_chk hc, new_U _, hb, l1, l2, l3, l4⟩

/-- What two gives. -/
def TwoG (n k : Nat) (w : World) (e : Ending) (w' : World) : Prop :=
  ∃ pa pn pc sa sn sc, e = .returned (cv (twoC n k) pa pn pc sa sn sc) ∧ Lists w' 0 (twoC n k) pa pn sa sn ∧ Below w.heap.size w w'
end Go.Proofs.Ytgipddeldddbnaa
