/-
  Package thief: Steal; the methods of its machine. (Written by wip/gen_alone.py.)
  Law 12: what the loop of BitmapKeeps keeps.
  The reference's Size and Ring.
  A drawn number, and the contract of the reference's Draw.
  Contract of the keep's Number.
  The keep's Queue and Deque.
-/
import Derived.Test.YtllllbepnnpeeaaMgAV
import Derived.Test.YtllllbepnnpeeaaMgAE
import Derived.Test.YtllllbepnnpeeaaMgAT
import Derived.Test.YtllllbepnnpeeaaMgAB
import Derived.Lib.Hide
import Derived.Deep.QuietTactic
import Derived.BigQuiet
import Derived.Deep.CutRange
import Derived.Test.YtllllbepnnpeeaaRows
import Derived.WalkKit
import Derived.WalkSpells
import Derived.WalkLawsBesides
import Derived.Test.YtllllbepnnpeeaaMgAP
import Derived.Test.YtllllbepnnpeeaaMgAS
import Derived.Test.YtllllbepnnpeeaaMgAH
import Derived.Test.YtllllbepnnpeeaaMgAA
import Derived.LoopTactic
import Derived.Deep.Cut
namespace Go.Proofs.Ytllllbepnnpeeaa
open Go Go.RowKit Go.Shelf
set_option linter.unusedSimpArgs false

/-- What Steal gives: a machine at its first line. -/
def Stealed (t b r k : Int) (w : World) (e : Ending) (w' : World) : Prop :=
  ∃ q : Nat, e = .returned (.iface 139 (.pointer (some ⟨q, 0, none⟩))) ∧ OB w' q 141 [.int .u64 0] (fra1 2 t b r k 0) 0 0 ∧ w.heap.size ≤ q ∧ Below w.heap.size w w'
set_option maxHeartbeats 2000000 in
theorem oSteal_any (t b r k : Int) (w : World) : Calls Try.prog 26 #[qv t b r k] w (Stealed t b r k w) := by
  have HQ := Lib.hid (below_one w (.cells (qcells t b r k) 52))
  go_enter Try.func26, Try.ntmps26
  go_wp2_with fail
  (with_reducible refine (on_any t b r k _).mono ?_)
  rintro e w1 ⟨rfl, hb⟩
  have HB := Lib.hid (HQ.out.trans (hb.mono HQ.out.size))
  clear hb
  go_wp2
  go_ret
  have hs := HB.out.size
  refine ⟨w1.heap.size, rfl, ⟨Blk.made w1 _ _, by decide, by decide, by decide, by decide⟩, hs, HB.out.trans ((below_one w1 _).mono hs)⟩

/-- Its methods. -/
theorem meth_step_stealer (q : Nat) (w : World) : (method 308 139 (.pointer (some ⟨q, 0, none⟩)) "Step").run Try.prog w = .ok (122, .pointer (some ⟨q, 0, none⟩)) w := by kernel_rfl
theorem ahead_step_stealer (q : Nat) (w : World) : (nilAhead 308 139 (.pointer (some ⟨q, 0, none⟩)) "Step").run Try.prog w = .ok (some false) w := by kernel_rfl
theorem meth_result_stealer (q : Nat) (w : World) : (method 308 139 (.pointer (some ⟨q, 0, none⟩)) "Result").run Try.prog w = .ok (101, .pointer (some ⟨q, 0, none⟩)) w := by kernel_rfl
theorem ahead_result_stealer (q : Nat) (w : World) : (nilAhead 308 139 (.pointer (some ⟨q, 0, none⟩)) "Result").run Try.prog w = .ok (some false) w := by kernel_rfl

end Go.Proofs.Ytllllbepnnpeeaa

namespace Go.Proofs.Ytllllbepnnpeeaa
open Go Go.RowKit Go.Shelf
set_option linter.unusedSimpArgs false
set_option linter.unusedVariables false

/-- Block x is a machine with the frame f, which is done or not. -/
def MP (w : World) (x : Nat) (ty : TypeId) (post : List Value) (f : Fra) (d : Bool) : Prop := ∃ cd vl : Int, OB w x ty post (if d then { f with ln := 0 } else f) cd vl ∧ (d = false → cd = 0 ∧ vl = 0)
def LP (w : World) (x : Nat) (ty : TypeId) (post : List Value) (f : Fra) (d : Bool) : Prop := ∃ cd vl : Int, LB w x ty post (if d then { f with ln := 0 } else f) cd vl ∧ (d = false → cd = 0 ∧ vl = 0)
theorem MP.fr {w w' : World} {x : Nat} {ty : TypeId} {post : List Value} {f : Fra} {d : Bool} {S : List Nat} (h : MP w x ty post f d) (hf : Fr S w w') (hx : x ∉ S) : MP w' x ty post f d := by
  obtain ⟨cd, vl, h, e⟩ := h
  exact ⟨cd, vl, h.fr hf hx, e⟩
theorem LP.fr {w w' : World} {x : Nat} {ty : TypeId} {post : List Value} {f : Fra} {d : Bool} {S : List Nat} (h : LP w x ty post f d) (hf : Fr S w w') (hx : x ∉ S) : LP w' x ty post f d := by
  obtain ⟨cd, vl, h, e⟩ := h
  exact ⟨cd, vl, h.fr hf hx, e⟩
theorem MP.lt {w : World} {x : Nat} {ty : TypeId} {post : List Value} {f : Fra} {d : Bool} (h : MP w x ty post f d) : ∃ cs, Blk w x ty cs := by
  obtain ⟨cd, vl, h, e⟩ := h
  exact ⟨_, h.blk⟩
theorem LP.lt {w : World} {x : Nat} {ty : TypeId} {post : List Value} {f : Fra} {d : Bool} (h : LP w x ty post f d) : ∃ cs, Blk w x ty cs := by
  obtain ⟨cd, vl, h, e⟩ := h
  exact ⟨_, h.blk⟩
/-- The environment and the four machines. -/
structure KB (w0 : World) (p m k g b : Nat) (xp xs xc xt : Nat) (s : St) (fp : Fra) (dp ds : Bool) (fc : Fra) (dc : Bool) (fs : Fra) (dt : Bool) (w : World) : Prop where
  e : BW w0 p m k g 7 hd0 nilV nilV 0 0 s w
  hp : MP w xp 138 [.int .i64 fp.fa] fp dp
  hs : LP w xs 125 [.int .i64 6, .int .u64 (maskS b)] (fraS 6 b) ds
  hc : MP w xc 131 [.int .i64 fc.fa, .int .u64 (maskS fc.fb)] fc dc
  ht : MP w xt 141 [.int .u64 fs.fw] fs dt
  lo : w0.heap.size ≤ xp ∧ w0.heap.size ≤ xs ∧ w0.heap.size ≤ xc ∧ w0.heap.size ≤ xt
section
variable {w0 w w' : World} {p m k g b : Nat} {xp xs xc xt : Nat} {s s' : St} {fp : Fra} {dp ds : Bool} {fc : Fra} {dc : Bool} {fs : Fra} {dt : Bool}
theorem KB.ne (h : KB w0 p m k g b xp xs xc xt s fp dp ds fc dc fs dt w) : (xp ≠ m ∧ xp ≠ g ∧ xp ≠ xs ∧ xp ≠ xc ∧ xp ≠ xt) ∧ (xs ≠ m ∧ xs ≠ g ∧ xs ≠ xp ∧ xs ≠ xc ∧ xs ≠ xt) ∧ (xc ≠ m ∧ xc ≠ g ∧ xc ≠ xp ∧ xc ≠ xs ∧ xc ≠ xt) ∧ (xt ≠ m ∧ xt ≠ g ∧ xt ≠ xp ∧ xt ≠ xs ∧ xt ≠ xc) := by
  obtain ⟨c1, b1⟩ := h.hp.lt
  obtain ⟨c2, b2⟩ := h.hs.lt
  obtain ⟨c3, b3⟩ := h.hc.lt
  obtain ⟨c4, b4⟩ := h.ht.lt
  obtain ⟨cur, hg, _⟩ := h.e.e.mem.row.blk
  have hm := h.e.e.mem.blk
  exact ⟨⟨b1.apart hm (by decide), b1.apart hg (by decide), b1.apart b2 (by decide), b1.apart b3 (by decide), b1.apart b4 (by decide)⟩, ⟨b2.apart hm (by decide), b2.apart hg (by decide), b2.apart b1 (by decide), b2.apart b3 (by decide), b2.apart b4 (by decide)⟩, ⟨b3.apart hm (by decide), b3.apart hg (by decide), b3.apart b1 (by decide), b3.apart b2 (by decide), b3.apart b4 (by decide)⟩, ⟨b4.apart hm (by decide), b4.apart hg (by decide), b4.apart b1 (by decide), b4.apart b2 (by decide), b4.apart b3 (by decide)⟩⟩
theorem KB.push (h : KB w0 p m k g b xp xs xc xt s fp dp ds fc dc fs dt w) {fp' : Fra} {dp' : Bool} (hp : PE w' p m k g 7 s' 0 0 hd0 nilV nilV) (hf : Fr [m, g, xp] w w') (hn : s'.N) (hb : MP w' xp 138 [.int .i64 fp'.fa] fp' dp') : KB w0 p m k g b xp xs xc xt s' fp' dp' ds fc dc fs dt w' := by
  obtain ⟨⟨a1, a2, a3, a4, a5⟩, ⟨b1, b2, b3, b4, b5⟩, ⟨c1, c2, c3, c4, c5⟩, ⟨d1, d2, d3, d4, d5⟩⟩ := h.ne
  exact ⟨h.e.done h.lo.1 hp hf hn, hb, h.hs.fr hf (by simp [b1, b2, b3]), h.hc.fr hf (by simp [c1, c2, c3]), h.ht.fr hf (by simp [d1, d2, d3]), h.lo⟩
theorem KB.set (h : KB w0 p m k g b xp xs xc xt s fp dp ds fc dc fs dt w) {ds' : Bool} (hp : PE w' p m k g 7 s' 0 0 hd0 nilV nilV) (hf : Fr [m, g, xs] w w') (hn : s'.N) (hb : LP w' xs 125 [.int .i64 6, .int .u64 (maskS b)] (fraS 6 b) ds') : KB w0 p m k g b xp xs xc xt s' fp dp ds' fc dc fs dt w' := by
  obtain ⟨⟨a1, a2, a3, a4, a5⟩, ⟨b1, b2, b3, b4, b5⟩, ⟨c1, c2, c3, c4, c5⟩, ⟨d1, d2, d3, d4, d5⟩⟩ := h.ne
  exact ⟨h.e.done h.lo.2.1 hp hf hn, h.hp.fr hf (by simp [a1, a2, a3]), hb, h.hc.fr hf (by simp [c1, c2, c4]), h.ht.fr hf (by simp [d1, d2, d4]), h.lo⟩
theorem KB.clear (h : KB w0 p m k g b xp xs xc xt s fp dp ds fc dc fs dt w) {fc' : Fra} {dc' : Bool} (hp : PE w' p m k g 7 s' 0 0 hd0 nilV nilV) (hf : Fr [m, g, xc] w w') (hn : s'.N) (hb : MP w' xc 131 [.int .i64 fc'.fa, .int .u64 (maskS fc'.fb)] fc' dc') : KB w0 p m k g b xp xs xc xt s' fp dp ds fc' dc' fs dt w' := by
  obtain ⟨⟨a1, a2, a3, a4, a5⟩, ⟨b1, b2, b3, b4, b5⟩, ⟨c1, c2, c3, c4, c5⟩, ⟨d1, d2, d3, d4, d5⟩⟩ := h.ne
  exact ⟨h.e.done h.lo.2.2.1 hp hf hn, h.hp.fr hf (by simp [a1, a2, a4]), h.hs.fr hf (by simp [b1, b2, b4]), hb, h.ht.fr hf (by simp [d1, d2, d5]), h.lo⟩
theorem KB.steal (h : KB w0 p m k g b xp xs xc xt s fp dp ds fc dc fs dt w) {fs' : Fra} {dt' : Bool} (hp : PE w' p m k g 7 s' 0 0 hd0 nilV nilV) (hf : Fr [m, g, xt] w w') (hn : s'.N) (hb : MP w' xt 141 [.int .u64 fs'.fw] fs' dt') : KB w0 p m k g b xp xs xc xt s' fp dp ds fc dc fs' dt' w' := by
  obtain ⟨⟨a1, a2, a3, a4, a5⟩, ⟨b1, b2, b3, b4, b5⟩, ⟨c1, c2, c3, c4, c5⟩, ⟨d1, d2, d3, d4, d5⟩⟩ := h.ne
  exact ⟨h.e.done h.lo.2.2.2 hp hf hn, h.hp.fr hf (by simp [a1, a2, a5]), h.hs.fr hf (by simp [b1, b2, b5]), h.hc.fr hf (by simp [c1, c2, c5]), hb, h.lo⟩
end
/-- The loop's relation. -/
def KL (w0 : World) (p m k g K b : Nat) (xp xs xc xt L : Nat) (i pv : Value) (w : World) : Prop :=
  ∃ (j : Nat) (s : St) (fp : Fra) (dp ds : Bool) (fc : Fra) (dc : Bool) (fs : Fra) (dt : Bool), j ≤ L + 40 ∧ i = .int .i64 j ∧ pv = .bool dp ∧ KB w0 p m k g b xp xs xc xt s fp dp ds fc dc fs dt w ∧ BK K b s fp dp ds fc dc fs dt ∧ Due j L 0 (wkP fp dp ds) ∧ Due j L 1 (wkO fc dc) ∧ Due j L 2 (wkO fs dt)
theorem wkP_push {fp fp' : Fra} {dp' ds : Bool} (h : dp' = false → fp'.ln = fp.ln + 1) (h0 : 1 ≤ fp.ln ∧ fp.ln ≤ 4) : wkP fp' dp' ds + 1 ≤ wkP fp false ds ∨ wkP fp' dp' ds = 0 := by
  left
  unfold wkP
  cases dp' with
  | true => simp; omega
  | false =>
    have := h rfl
    simp only [Bool.false_eq_true, if_false]
    omega
theorem wkO_step {f f' : Fra} {d' : Bool} (h : d' = false → f'.ln = f.ln + 1) (h0 : 1 ≤ f.ln ∧ f.ln ≤ 4) : wkO f' d' + 1 ≤ wkO f false ∨ wkO f' d' = 0 := by
  unfold wkO
  cases d' with
  | true => right; rfl
  | false =>
    have := h rfl
    left
    simp only [Bool.false_eq_true, if_false]
    omega
theorem wkP_end {fp : Fra} {dp ds : Bool} (h : wkP fp dp ds = 0) (h0 : dp = false → 1 ≤ fp.ln ∧ fp.ln ≤ 4) : dp = true ∧ ds = true := by
  unfold wkP at h
  cases dp with
  | false =>
    have := h0 rfl
    simp only [Bool.false_eq_true, if_false] at h
    omega
  | true =>
    cases ds with
    | false => simp at h
    | true => exact ⟨rfl, rfl⟩
theorem wkO_end {f : Fra} {d : Bool} (h : wkO f d = 0) (h0 : d = false → 1 ≤ f.ln ∧ f.ln ≤ 4) : d = true := by
  unfold wkO at h
  cases d with
  | false =>
    have := h0 rfl
    simp only [Bool.false_eq_true, if_false] at h
    omega
  | true => rfl
theorem bitB_pow (b : Nat) : bitB (2 ^ b) b = true := by
  unfold bitB
  simp [Nat.testBit_two_pow_self]
theorem due0 (L c W : Nat) (hW : W ≤ 5) (h : c + 3 * W ≤ 15) (hc : c < 3) : Due 0 L c W := by
  refine ⟨hW, fun hl => .inr ?_⟩
  omega
end Go.Proofs.Ytllllbepnnpeeaa

namespace Go.Proofs.Ytllllbepnnpeeaa
open Go Go.RowKit
set_option linter.unusedSimpArgs false

theorem size_any (b t : Int) (w : World) : Calls Try.prog 27 #[.int .u64 b, .int .u64 t] w fun e w' => e = .returned (.int .i64 (sizeI b t)) ∧ w = w' := by
  go_enter Try.func27, Try.ntmps27
  go_wp2
  go_ret
  exact ⟨rfl, rfl⟩
theorem ring_any (t b r k i : Int) (hi : 0 ≤ i) (hk : k ≤ 9223372036854775807) (w : World) : Calls Try.prog 51 #[qv t b r k, .int .u64 i] w fun e w' => e = .returned (.int .i64 (ringI r k i)) ∧ Below w.heap.size w w' := by
  have HB := Lib.hid (below_one w (.cells #[.int .i64 t, .int .i64 b, .int .i64 r, .int .i64 k] 52))
  unfold ringI
  by_cases h1 : k < 1
  · rw [if_pos h1]
    go_enter Try.func51, Try.ntmps51
    go_wp2
    go_ret
    exact ⟨rfl, HB.out⟩
  · rw [if_neg h1]
    have hk1 : 1 ≤ k := by omega
    have s0 : IntKind.u64.wrap k = k := IntWalk.u64_in _ (by omega)
    go_enter Try.func51, Try.ntmps51
    go_wp2_with fail
    go_quiet (fail)
    go_wp2
    go_ret
    exact ⟨rfl, HB.out.trans ((below_drewN _ _).mono HB.out.size)⟩
end Go.Proofs.Ytllllbepnnpeeaa

namespace Go.Proofs.Ytllllbepnnpeeaa
open Go Go.RowKit

/-- The number from 0 to n - 1 that differs from d by a multiple of n; 0 if n is less than 1. -/
def drw (d n : Int) : Int := if n < 1 then 0 else if d.tmod n < 0 then d.tmod n + n else d.tmod n
theorem drw_low (d n : Int) (h : n < 1) : drw d n = 0 := if_pos h
theorem drw_neg (d n : Int) (h : ¬ n < 1) (h' : d.tmod n < 0) : drw d n = d.tmod n + n := by rw [drw, if_neg h, if_pos h']
theorem drw_pos (d n : Int) (h : ¬ n < 1) (h' : ¬ d.tmod n < 0) : drw d n = d.tmod n := by rw [drw, if_neg h, if_neg h']
theorem tmod_in (d n : Int) (h : ¬ n < 1) : -n < d.tmod n ∧ d.tmod n < n := by
  have h1 := Int.tmod_lt_of_pos d (show 0 < n by omega)
  have h2 := Int.lt_tmod_of_pos d (show 0 < n by omega)
  omega
theorem drw_in (d n : Int) (h : 1 ≤ n) : 0 ≤ drw d n ∧ drw d n < n := by
  have hr := tmod_in d n (by omega)
  unfold drw
  rw [if_neg (by omega)]
  split <;> omega
theorem drw_self (d n : Int) (h : 0 ≤ d) (h' : d < n) : drw d n = d := by
  unfold drw
  rw [if_neg (by omega), Int.tmod_eq_of_lt h h', if_neg (by omega)]

theorem rdraw_any (d n : Int) (hn : n ≤ 9223372036854775807) (w : World) :
    Calls Try.prog 29 #[.int .i64 d, .int .i64 n] w fun e w' => e = .returned (.int .i64 (drw d n)) ∧ w = w' := by
  by_cases h : n < 1
  · rw [drw_low d n h]
    clear hn
    go_enter Try.func29, Try.ntmps29
    go_wp2
    go_ret
    exact ⟨rfl, rfl⟩
  · have hr := tmod_in d n h
    by_cases h' : d.tmod n < 0
    · rw [drw_neg d n h h']
      generalize hg : d.tmod n = r at *
      go_enter Try.func29, Try.ntmps29
      go_wp2
      go_ret
      exact ⟨rfl, rfl⟩
    · rw [drw_pos d n h h']
      generalize hg : d.tmod n = r at *
      have h'' : 0 ≤ r := by omega
      go_enter Try.func29, Try.ntmps29
      go_wp2
      go_ret
      exact ⟨rfl, rfl⟩
end Go.Proofs.Ytllllbepnnpeeaa

namespace Go.Proofs.Ytllllbepnnpeeaa
open Go Go.RowKit

/-- A number from 0 to n - 1, behind some draws. -/
def NumR (n : Int) (w : World) (e : Ending) (w' : World) : Prop := ∃ y : Nat, (y : Int) < n ∧ e = .returned (.int .i64 y) ∧ ∃ m, w' = w.drewN m

set_option maxHeartbeats 1000000 in
theorem keepnum_any {w : World} {a : Option Addr} {L : Nat} {zs : List Int} (h : InInts w a L zs) (c k : Nat) (hk : k ≤ 1000000) (n : Int) (hn : 1 ≤ n) (hn' : n ≤ 1000000) :
    Calls Try.prog 9 #[.slice a L c, .int .i64 k, .int .i64 n] w (NumR n w) := by
  have hmax := h.2.1
  unfold maxLen at hmax
  by_cases hL : L = 0
  · subst hL
    clear h
    go_enter Try.func9, Try.ntmps9
    go_wp2
    go_ret
    exact ⟨0, by omega, rfl, 0, rfl⟩
  · have hL0 : ((L : Int) == 0) = false := by simp; omega
    have hL1 : (1 : Int) ≤ L := by omega
    have hm : k % L < L := Nat.mod_lt _ (by omega)
    obtain ⟨x, rfl, _, hc⟩ := h.2.2 (k % L) hm
    generalize zs.getD (k % L) 0 = z at hc
    clear h hL
    have hq := fun (d : Int) (u : World) => (rdraw_any d n (by omega) u).mono (fun e w' (h : e = .returned (.int .i64 (drw d n)) ∧ u = w') => (⟨h.1, h.2.symm⟩ : e = .returned (.int .i64 (drw d n)) ∧ w' = u))
    have hmi : (k : Int) % (L : Int) < (L : Int) := Int.emod_lt_of_pos _ (by omega)
    have hmi0 : 0 ≤ (k : Int) % (L : Int) := Int.emod_nonneg _ (by omega)
    have hd0 : 0 ≤ (k : Int) / (L : Int) := Int.ediv_nonneg (by omega) (by omega)
    have hd1 : (k : Int) / (L : Int) ≤ k := Int.ediv_le_self _ (by omega)
    have e0 : 0 ≤ (k : Int) / (L : Int) % 7 := Int.emod_nonneg _ (by omega)
    have e1 : (k : Int) / (L : Int) % 7 < 7 := Int.emod_lt_of_pos _ (by omega)
    go_enter Try.func9, Try.ntmps9
    go_wp2_with fail
    go_quiet ((go_at_call 29; exact Calls.quiet_of_same (hq _ _)))
    obtain ⟨g0, g1⟩ := drw_in (wrap64 (z.tdiv (1 + (k : Int) / (L : Int) % 7))) n hn
    generalize drw (wrap64 (z.tdiv (1 + (k : Int) / (L : Int) % 7))) n = y at *
    obtain ⟨y, rfl⟩ : ∃ u : Nat, y = (u : Int) := ⟨y.toNat, by omega⟩
    go_wp2
    go_ret
    exact ⟨y, g1, rfl, _, rfl⟩

end Go.Proofs.Ytllllbepnnpeeaa

namespace Go.Proofs.Ytllllbepnnpeeaa
open Go Go.RowKit
set_option linter.unusedSimpArgs false

/-- What Deque gives. -/
def DequeD (n : Nat) (t sz : Nat) (w : World) (e : Ending) (w' : World) : Prop :=
  ∃ (g : Nat) (X l : List Int), e = .returned (.slice (some ⟨g, 0, none⟩) (n + 3 : Nat) (n + 3 : Nat)) ∧ Row w' g (n + 3) (n + 3) X ∧ (∀ x, x ∈ X → 0 ≤ x) ∧ w.heap.size ≤ g ∧ Below w.heap.size w w' ∧
    l.length = sz ∧ (∀ x, x ∈ l → 0 ≤ x ∧ x < 1000) ∧ (t + sz < 18446744073709551616 → DqX X n t l ∧ X.getD 1 0 = ((t + sz : Nat) : Int))
/-- What its loop keeps. -/
def DeqL (w : World) (n t sz g : Nat) (i : Value) (wr : World) : Prop :=
  ∃ (j : Nat) (X l : List Int), i = .int .i64 j ∧ j ≤ sz ∧ Row wr g (n + 3) (n + 3) X ∧ (∀ x, x ∈ X → 0 ≤ x) ∧ Below w.heap.size w wr ∧ l.length = j ∧ (∀ x, x ∈ l → 0 ≤ x ∧ x < 1000) ∧ (t + sz < 18446744073709551616 → DqX X n t l ∧ X.getD 1 0 = ((t + sz : Nat) : Int))

theorem set_nn {X : List Int} (h : ∀ x, x ∈ X → 0 ≤ x) (i : Nat) {v : Int} (hv : 0 ≤ v) : ∀ x, x ∈ X.set i v → 0 ≤ x := by
  intro x hx
  rcases List.mem_or_eq_of_mem_set hx with h1 | rfl
  · exact h x h1
  · exact hv

theorem deqL_start (w : World) {n t sz : Nat} (hn : 1 ≤ n ∧ n ≤ 100) {U : Int} (h0 : 0 ≤ U) (hU : t + sz < 18446744073709551616 → U = ((t + sz : Nat) : Int)) :
    DeqL w n t sz w.heap.size (.int .i64 0) (((w.alloc (.cells (madeCells #[.int .u64 0] (n + 3)) 39)).setCell ⟨w.heap.size, 0, none⟩ (.int .u64 t)).setCell ⟨w.heap.size, 1, none⟩ (.int .u64 U)) := by
  have hr := ((made_row w (n + 3) (by omega)).put (i := 0) (t : Int)).put (i := 1) U
  have hb := ((below_one w (.cells (madeCells #[.int .u64 0] (n + 3)) 39)).setCell (p := ⟨w.heap.size, 0, none⟩) (Nat.le_refl _) (.int .u64 t)).setCell (p := ⟨w.heap.size, 1, none⟩) (Nat.le_refl _) (.int .u64 U)
  refine ⟨0, _, [], rfl, by omega, hr, set_nn (set_nn (by intro x hx; rw [List.eq_of_mem_replicate hx]; exact Int.le_refl 0) 0 (by omega)) 1 h0, hb, rfl, by simp, fun hlt => ⟨⟨?_, fun i hi => by simp at hi⟩, ?_⟩⟩
  · simp [List.replicate_succ]
  · rw [← hU hlt]
    simp [List.replicate_succ]
theorem deqL_next {w wr w3 : World} {n t sz g j r : Nat} {X l : List Int} {V : Int} {y : Nat} (hn : 1 ≤ n ∧ n ≤ 100) (hs : sz ≤ n) (ht : t < 18446744073709551616) (hj : j < sz) (hr : Row wr g (n + 3) (n + 3) X) (hX : ∀ x, x ∈ X → 0 ≤ x) (hb : Below w.heap.size w wr) (hl : l.length = j) (hll : ∀ x, x ∈ l → 0 ≤ x ∧ x < 1000) (hd : t + sz < 18446744073709551616 → DqX X n t l ∧ X.getD 1 0 = ((t + sz : Nat) : Int))
    (hV : IntKind.u64.wrap ((t : Int) + (j : Int)) = V) (_ : r < n) (hr2 : (r : Int) = V % n) (h3 : Below wr.heap.size wr w3) (hy : (y : Int) < 1000) (hg : w.heap.size ≤ g) :
    DeqL w n t sz g (.int .i64 ((j + 1 : Nat) : Int)) (w3.setCell ⟨g, 2 + r, none⟩ (.int .u64 (y : Int))) := by
  have hr3 := (hr.of_same (w' := w3) (h3.block g hr.lt)).put (i := 2 + r) (y : Int)
  have hb3 := (hb.trans (h3.mono hb.size)).setCell (p := ⟨g, 2 + r, none⟩) hg (.int .u64 (y : Int))
  refine ⟨j + 1, _, l ++ [(y : Int)], rfl, by omega, hr3, set_nn hX _ (by omega), hb3, by simp [hl], fun x hx => ?_, fun hlt => ?_⟩
  · rcases List.mem_append.1 hx with h | h
    · exact hll x h
    · simp at h
      omega
  · obtain ⟨h1, h2⟩ := hd hlt
    have hVV : V = ((t + j : Nat) : Int) := by
      rw [← hV, IntWalk.u64_in _ (by omega)]
      omega
    have er : r = (t + l.length) % n := by
      rw [hVV] at hr2
      rw [hl]
      omega
    refine ⟨?_, ?_⟩
    · rw [er]
      exact h1.put hr.len hn.1 (by omega) _
    · rw [List.getD_eq_getElem?_getD, List.getElem?_set_ne (by omega), ← List.getD_eq_getElem?_getD]
      exact h2

set_option maxRecDepth 100000 in
set_option maxHeartbeats 8000000 in
theorem deque_any {w : World} {a : Option Addr} {L : Nat} {zs : List Int} (h : InInts w a L zs) (c n t sz : Nat) (hn : 1 ≤ n ∧ n ≤ 100) (ht : t < 18446744073709551616) (hs : sz ≤ n) :
    Calls Try.prog 24 #[.int .i64 n, .int .u64 t, .int .i64 sz, .slice a L c] w (DequeD n t sz w) := by
  have hmk := fun (W : World) => run_make_row' (P := Try.prog) 44 39 (.int .u64 0) 8 Try.underlying44 info_u64 rfl .i64 .i64 (n + 3) (by omega) (by omega) W
  rw [show ((n + 3 : Nat) : Int) = (n : Int) + 3 by omega] at hmk
  have hrow := made_row w (n + 3) (by omega)
  have hb0 := below_one w (.cells (madeCells #[.int .u64 0] (n + 3)) 39)
  have HI2 := Lib.hid h
  obtain ⟨U, hU⟩ : ∃ U, IntKind.u64.wrap ((t : Int) + (sz : Int)) = U := ⟨_, rfl⟩
  have hUn : 0 ≤ U ∧ (t + sz < 18446744073709551616 → U = ((t + sz : Nat) : Int)) := by
    subst hU
    refine ⟨u64_nn _, fun h => ?_⟩
    rw [IntWalk.u64_in _ (by omega)]
    omega
  have HU := Lib.hid hUn
  have hc0 := hrow.cell (i := 0) (by omega)
  have hc1 := hrow.cell (i := 1) (by omega)
  have hf0 := hrow.free 0
  have hf1 := hrow.free 1
  have hX0 : ∀ i : Nat, (List.replicate (n + 3) (0 : Int)).getD i 0 = 0 := by
    intro i
    rw [List.getD_eq_getElem?_getD, List.getElem?_replicate]
    split <;> rfl
  rw [hX0] at hc0 hc1
  have i0 : (0 : Int) < ((n + 3 : Nat) : Int) := by omega
  have i1 : (1 : Int) < ((n + 3 : Nat) : Int) := by omega
  have HN := Lib.hid (And.intro hn (And.intro ht hs))
  have HST := Lib.hid (deqL_start w hn hUn.1 hUn.2)
  clear h hrow hb0 hUn hX0
  generalize hN3 : n + 3 = N3 at *
  have HN3 := Lib.hid hN3
  go_enter Try.func24, Try.ntmps24
  go_upto_region 2 with fail
  generalize w.alloc (.cells (madeCells #[.int .u64 0] N3) 39) = W1 at *
  clear hmk
  go_wp2_with fail
  clear hc0 hc1 hf0 hf1
  generalize hg : w.heap.size = g at *
  have HG := Lib.hid (show w.heap.size ≤ g from Nat.le_of_eq hg)
  clear hg
  go_loopw [10] (fun i wr => DeqL w n t sz g i wr) (fun i _ => sz - (intOf i).toNat)
  case atStart => exact HST.out
  case round =>
    clear HST
    obtain ⟨j, X, l, rfl, hj, hr, hX, hb, hl, hll, hd⟩ := hrel
    by_cases hlt : j < sz
    · obtain ⟨V, hV⟩ : ∃ V, IntKind.u64.wrap ((t : Int) + (j : Int)) = V := ⟨_, rfl⟩
      obtain ⟨r, hr1, hr2, hr3⟩ := ring2 n HN.out.1 V
      have HV := Lib.hid (And.intro hV (And.intro hr1 hr2))
      have HH := Lib.hid (And.intro hr (And.intro hX (And.intro hb (And.intro hl (And.intro hll hd)))))
      have hV0 : 0 ≤ V := by rw [← hV]; exact u64_nn _
      have HQ := Lib.hid (fun W : World => queue_any (n : Int) W)
      have HRG := Lib.hid (fun W : World => ring_any 0 1 2 n V hV0 (by have := HN.out.1; omega) W)
      rw [hr3] at HRG
      clear hr hX hb hl hll hd hr1 hr2 hr3
      go_wp2_with fail
      (with_reducible refine (HQ.out _).mono ?_)
      rintro e w1 ⟨rfl, hb1⟩
      have B1 := Lib.hid hb1
      clear hb1
      go_wp2_with fail
      (with_reducible refine (HRG.out _).mono ?_)
      rintro e w2 ⟨rfl, hb2⟩
      have B2 := Lib.hid (B1.out.trans (hb2.mono B1.out.size))
      clear hb2 B1
      go_wp2_with fail
      (with_reducible refine (keepnum_any ((HI2.out.below HH.out.2.2.1).below B2.out) c j (by have := HN.out; omega) 1000 (by omega) (by omega)).mono ?_)
      rintro e w3 ⟨yv, hy1, rfl, nd, rfl⟩
      have B3 := Lib.hid (B2.out.trans ((below_drewN w2 nd).mono B2.out.size))
      generalize w2.drewN nd = W3 at *
      have hrow3 := HH.out.1.of_same (w' := W3) (B3.out.block g HH.out.1.lt)
      have hcx := hrow3.cell (i := 2 + r) (by have := HV.out.2.1; omega)
      have hfx := hrow3.free (2 + r)
      have hNX := Lib.hid (show ((2 + r : Nat) : Int) < (N3 : Int) from by have := HV.out.2.1; have := HN3.out; omega)
      have hix := hNX.out
      have hyw : IntKind.u64.wrap (yv : Int) = (yv : Int) := IntWalk.u64_in _ (by omega)
      have HR := Lib.hid (deqL_next HN.out.1 HN.out.2.2 HN.out.2.1 hlt HH.out.1 HH.out.2.1 HH.out.2.2.1 HH.out.2.2.2.1 HH.out.2.2.2.2.1 HH.out.2.2.2.2.2 HV.out.1 HV.out.2.1 HV.out.2.2 B3.out hy1 HG.out)
      clear hrow3 hNX
      go_wp2_with fail
      go_roundw
      case rel =>
        have := HR.out
        rw [show ((j + 1 : Nat) : Int) = (j : Int) + 1 by omega] at this
        exact this
      case measure => simp [intOf]; omega
    · obtain rfl : j = sz := by omega
      have HH := Lib.hid (And.intro hr (And.intro hX (And.intro hb (And.intro hl (And.intro hll hd)))))
      clear hr hX hb hl hll hd
      go_wp2
      go_ret
      obtain ⟨hr, hX, hb, hl, hll, hd⟩ := HH.out
      exact ⟨g, X, l, by rw [← HN3.out]; rfl, hr, hX, HG.out, hb, hl, hll, hd⟩
end Go.Proofs.Ytllllbepnnpeeaa
