/-
  The layout's cells as plain numbers. No function and no type is named.
  Small words on what a call leaves alone.
  Words for opening a law's arguments, whatever their types.
-/
import Derived.Test.YtgipddeldddbnaaGreatCfMath
import Derived.Test.YtgipddeldddbnaaGreatMgAA
import Derived.WalkSpells
import Derived.WalkLawsBesides
import Derived.Lib.Hide
import Derived.Maps.AppendAt
import Derived.Deep.Slices
import Derived.Deep.OwnRows
import Derived.Deep.QuietTactic
import Derived.BigQuiet
import Derived.BigRegion
import Derived.Deep.RegionHeld3
import Derived.Deep.RegionLaw
import Derived.StillTailTactics
import Derived.Test.YtgipddeldddbnaaGreatRows
import Derived.WalkKit
import Derived.ProofKit
import Derived.OpenShut
import Derived.ShutString
import Derived.ChangeOld
import Derived.Deep.Fields
namespace Go.Proofs.YtgipddeldddbnaaGreat
open Go

/-- The numbers of a configuration are in their ranges. -/
structure CfgIn (c : Cfg) : Prop where
  wo : 1 ≤ c.wo ∧ c.wo ≤ 16
  le : 1 ≤ c.le ∧ c.le ≤ 64
  cl : 1 ≤ c.cl ∧ c.cl ≤ 8
  ta : 1 ≤ c.ta ∧ c.ta ≤ 256
  de : 1 ≤ c.de ∧ c.de ≤ 64
  he : 1 ≤ c.he ∧ c.he ≤ 64

def ixs (first i n size : Int) : Int := if i < 0 ∨ n ≤ i then -1 else first + i * size
def rSlot (c : Cfg) (i : Int) : Int := ixs 4 i c.he 1
def rSleepers (c : Cfg) (i : Int) : Int := ixs (4 + c.he) i c.cl 1
def rEpoch (c : Cfg) (i : Int) : Int := ixs (4 + c.he + c.cl) i c.wo 1
def rBitmap (c : Cfg) (i : Int) : Int := ixs (4 + c.he + c.cl + c.wo) i c.wo 1
def rDeques (c : Cfg) : Int := 4 + c.he + c.cl + 2 * c.wo
/-- The cells of all deques. -/
def rAll (c : Cfg) : Int := c.wo * c.le * (2 + c.de)
def rAt (c : Cfg) (w l : Int) : Int := rDeques c + (w * c.le + l) * (2 + c.de)
/-- There is such a deque. -/
def qIn (c : Cfg) (w l : Int) : Prop := 0 ≤ w ∧ w < c.wo ∧ 0 ≤ l ∧ l < c.le
instance (c : Cfg) (w l : Int) : Decidable (qIn c w l) := by unfold qIn; infer_instance
def rTask (c : Cfg) (t k : Int) : Int := if ixs (rDeques c + rAll c) t c.ta 5 < 0 then -1 else ixs (rDeques c + rAll c) t c.ta 5 + k
def rCells (c : Cfg) : Int := rDeques c + rAll c + 5 * c.ta

theorem mul_in {a b A B : Int} (h0 : 0 ≤ a) (h1 : a ≤ A) (h2 : 0 ≤ b) (h3 : b ≤ B) : 0 ≤ a * b ∧ a * b ≤ A * B :=
  ⟨Int.mul_nonneg h0 h2, Int.mul_le_mul h1 h3 h2 (Int.le_trans h0 h1)⟩
theorem CfgIn.wl {c : Cfg} (h : CfgIn c) : 1 ≤ c.wo * c.le ∧ c.wo * c.le ≤ 1024 := by
  have h1 := h.wo
  have h2 := h.le
  have h3 := mul_in (a := c.wo - 1) (b := c.le - 1) (by omega) (Int.le_refl _) (by omega) (Int.le_refl _)
  have h4 : (c.wo - 1) * (c.le - 1) = c.wo * c.le - c.wo - c.le + 1 := by
    rw [Int.sub_mul, Int.mul_sub]; omega
  have := (mul_in (a := c.wo) (b := c.le) (by omega) h1.2 (by omega) h2.2).2
  omega
theorem CfgIn.all {c : Cfg} (h : CfgIn c) : 0 ≤ rAll c ∧ rAll c ≤ 67584 := by
  have h1 := h.wl
  have h2 := h.de
  exact mul_in (by omega) h1.2 (by omega) (by omega : 2 + c.de ≤ 66)
theorem CfgIn.deques {c : Cfg} (h : CfgIn c) : 0 ≤ rDeques c ∧ rDeques c ≤ 200 := by
  have h1 := h.he
  have h2 := h.cl
  have h3 := h.wo
  unfold rDeques
  omega
theorem CfgIn.cells {c : Cfg} (h : CfgIn c) : 5 ≤ rCells c ∧ rCells c ≤ 70000 := by
  have h1 := h.all
  have h2 := h.he
  have h3 := h.cl
  have h4 := h.wo
  have h5 := h.ta
  unfold rCells rDeques
  omega
/-- A place of a deque is within those of all deques. -/
theorem CfgIn.at_ {c : Cfg} (h : CfgIn c) {w l : Int} (hq : qIn c w l) : 0 ≤ w * c.le ∧ w * c.le + l + 1 ≤ 1024 ∧ 0 ≤ (w * c.le + l) * (2 + c.de) ∧ (w * c.le + l) * (2 + c.de) + (2 + c.de) ≤ rAll c := by
  obtain ⟨q0, q1, q2, q3⟩ := hq
  have h1 := h.le
  have h2 := h.de
  have h3 := h.wl
  have h4 : w * c.le + c.le ≤ c.wo * c.le := by
    have := Int.mul_le_mul_of_nonneg_right (show w + 1 ≤ c.wo by omega) (show 0 ≤ c.le by omega)
    rw [Int.add_mul] at this
    omega
  have h5 : 0 ≤ w * c.le := Int.mul_nonneg q0 (by omega)
  refine ⟨h5, by omega, Int.mul_nonneg (by omega) (by omega), ?_⟩
  have h6 := Int.mul_le_mul_of_nonneg_right (show w * c.le + l + 1 ≤ c.wo * c.le by omega) (show 0 ≤ 2 + c.de by omega)
  rw [Int.add_mul] at h6
  unfold rAll
  omega

def rQueue (c : Cfg) (w l : Int) : Int × Int × Int × Int := if qIn c w l then (rAt c w l, rAt c w l + 1, rAt c w l + 2, c.de) else (-1, -1, -1, 0)
end Go.Proofs.YtgipddeldddbnaaGreat

namespace Go.Proofs.YtgipddeldddbnaaGreat
open Go Go.RowKit

theorem block_add (x : Addr) (i : Nat) : (x.add i).block = x.block := by unfold Addr.add; split <;> rfl
theorem below_one (w : World) (o : Obj) : Below w.heap.size w (w.alloc o) := (Below.refl _ _).alloc (Nat.le_refl _) o
theorem below_drew {w w' : World} {B : Nat} (h : Below B w w') : Below B w w'.drew := ⟨h.os, h.tape, h.output, h.size, h.block⟩
theorem below_drewN (w : World) (m : Nat) : Below w.heap.size w (w.drewN m) := ⟨rfl, rfl, rfl, Nat.le_refl _, fun _ _ => rfl⟩
theorem below_fr {w w' : World} (h : Below w.heap.size w w') : Fr [] w w' := Fr.old h
theorem fr_below {w w' : World} (h : Fr [] w w') : Below w.heap.size w w' := h.below (Nat.le_refl _) (fun k hk => by cases hk)
theorem bcell {W w1 : World} (hb : Below W.heap.size W w1) : (∀ b o, b < W.heap.size → w1.cell? ⟨b, o, none⟩ = W.cell? ⟨b, o, none⟩) ∧ (∀ b o, b < W.heap.size → w1.frozen? ⟨b, o, none⟩ = W.frozen? ⟨b, o, none⟩) :=
  ⟨fun b o h => hb.cell (p := ⟨b, o, none⟩) h, fun b o h => hb.frozen (p := ⟨b, o, none⟩) h⟩

theorem Blk.below {w w' : World} {g : Nat} {t : TypeId} {cs : Array Value} (h : Blk w g t cs) (hb : Below w.heap.size w w') : Blk w' g t cs := h.of_same (hb.block g h.lt)
theorem Blk.alloc {w : World} {g : Nat} {t : TypeId} {cs : Array Value} (h : Blk w g t cs) (o : Obj) : Blk (w.alloc o) g t cs := h.below (below_one w o)
theorem Blk.grown {w w' : World} {g : Nat} {t : TypeId} {cs : Array Value} {row : Option Nat} (h : Blk w g t cs) (hg : w.grownBy w' row) (hne : row ≠ some g) : Blk w' g t cs := h.of_same (hg.block g h.lt (fun e => hne e.symm))

/-- A cell behind the head of a struct, as the walk spells it. -/
theorem cell_field {w : World} {x : Addr} {i j : Nat} {u : Value} (h : w.cell? (x.add (i + (j + 1))) = some u) : w.cell? ⟨(x.add i).block, (x.add i).off + (j + 1), none⟩ = some u := by
  have e : x.add (i + (j + 1)) = ⟨(x.add i).block, (x.add i).off + (j + 1), none⟩ := by
    unfold Addr.add
    by_cases hi : i = 0
    · subst hi
      simp
    · rw [if_neg (by omega), if_neg (by omega)]
      simp [Nat.add_assoc]
  rw [← e]
  exact h
/-- A result in a cell and one in a slot. -/
theorem results_cell_tmp {P : Program} {fn : Func} {p q : Tmp} {ty : TypeId} (h : fn.results = #[.cell p ty, .tmp q]) (tmps : Array Value) (w : World) (g : Nat) (t : TypeId) (cs : Array Value) (fr : Nat × Nat) (d : TypeDesc) (v : Value)
    (hp : tmps.getD p undef = .pointer (some ⟨g, 0, none⟩)) (hq : tmps.getD q undef = v) (hg : w.heap[g]? = some (.cells cs t fr))
    (hu : P.underlying ty = some d) (hd : (match d with | .struct _ | .array _ _ => true | _ => false) = true) (hi : (P.info? ty).map (·.size) = some cs.size) :
    (results fn tmps).run P w = .ok (.tuple #[.agg cs, v]) w := by
  have hp' : tmps[p]?.getD undef = .pointer (some ⟨g, 0, none⟩) := by simpa using hp
  have hq' : tmps[q]?.getD undef = v := by simpa using hq
  simp [results, h, hp', hq', asAddr, run_loadVar_row w g t ty cs fr d hg hu hd hi]
theorem below_of_fr {w0 w w' : World} {S : List Nat} (h : Below w0.heap.size w0 w) (hf : Fr S w w') (hs : ∀ x ∈ S, w0.heap.size ≤ x) : Below w0.heap.size w0 w' :=
  h.trans (hf.below h.size hs)
end Go.Proofs.YtgipddeldddbnaaGreat

namespace Go.Proofs.YtgipddeldddbnaaGreat
open Go Go.ChangeShapes Go.WideShapes Go.ChangeAt Go.RowKit

theorem ownKnobs : ownKnob Tryz.prog.godebug = none := by kernel_rfl
theorem laidOut : laidOutB Tryz.prog = true := by kernel_rfl

theorem u64_nat {a : Int} (h : (Lit.int .u64 a).wf = true) : ∃ x : Nat, a = (x : Int) ∧ x < 18446744073709551616 := by
  simp only [Lit.wf, Bool.and_eq_true, decide_eq_true_eq] at h
  have h0 : IntKind.u64.min = 0 := rfl
  have h1 : IntKind.u64.max = 18446744073709551615 := rfl
  rw [h0, h1] at h
  exact ⟨a.toNat, by omega, by omega⟩

theorem i64_in {a : Int} (h : (Lit.int .i64 a).wf = true) : -9223372036854775808 ≤ a ∧ a ≤ 9223372036854775807 := by
  simp only [Lit.wf, Bool.and_eq_true, decide_eq_true_eq] at h
  have h0 : IntKind.i64.min = -9223372036854775808 := rfl
  have h1 : IntKind.i64.max = 9223372036854775807 := rfl
  rw [h0, h1] at h
  exact h

theorem u8_in {a : Int} (h : (Lit.int .u8 a).wf = true) : 0 ≤ a ∧ a ≤ 255 := by
  simp only [Lit.wf, Bool.and_eq_true, decide_eq_true_eq] at h
  have h0 : IntKind.u8.min = 0 := rfl
  have h1 : IntKind.u8.max = 255 := rfl
  rw [h0, h1] at h
  exact h
end Go.Proofs.YtgipddeldddbnaaGreat
