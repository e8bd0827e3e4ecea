/-
  The layout's cells as plain numbers. No function and no type is named.
  Events as plain data.
  Package injector: the lines of its machines, and of the reference's, as plain functions of a memory's state and a frame. No function and no type is named.
-/
import Derived.Test.YtanbjdlaolgepaaCfMath
import Derived.Test.YtanbjdlaolgepaaMgAA
import Derived.Test.YtanbjdlaolgepaaMgAB
namespace Go.Proofs.Ytanbjdlaolgepaa
open Go

/-- The numbers of a configuration are in their ranges. -/
structure CfgIn (c : Cfg) : Prop where
  wo : 1 ≤ c.wo ∧ c.wo ≤ 16
  le : 1 ≤ c.le ∧ c.le ≤ 64
  cl : 1 ≤ c.cl ∧ c.cl ≤ 8
  ta : 1 ≤ c.ta ∧ c.ta ≤ 256
  de : 1 ≤ c.de ∧ c.de ≤ 64
  he : 1 ≤ c.he ∧ c.he ≤ 64

def ixs (first i n size : Int) : Int := if i < 0 ∨ n ≤ i then -1 else first + i * size
def rSlot (c : Cfg) (i : Int) : Int := ixs 4 i c.he 1
def rSleepers (c : Cfg) (i : Int) : Int := ixs (4 + c.he) i c.cl 1
def rEpoch (c : Cfg) (i : Int) : Int := ixs (4 + c.he + c.cl) i c.wo 1
def rBitmap (c : Cfg) (i : Int) : Int := ixs (4 + c.he + c.cl + c.wo) i c.wo 1
def rDeques (c : Cfg) : Int := 4 + c.he + c.cl + 2 * c.wo
/-- The cells of all deques. -/
def rAll (c : Cfg) : Int := c.wo * c.le * (2 + c.de)
def rAt (c : Cfg) (w l : Int) : Int := rDeques c + (w * c.le + l) * (2 + c.de)
/-- There is such a deque. -/
def qIn (c : Cfg) (w l : Int) : Prop := 0 ≤ w ∧ w < c.wo ∧ 0 ≤ l ∧ l < c.le
instance (c : Cfg) (w l : Int) : Decidable (qIn c w l) := by unfold qIn; infer_instance
def rTask (c : Cfg) (t k : Int) : Int := if ixs (rDeques c + rAll c) t c.ta 5 < 0 then -1 else ixs (rDeques c + rAll c) t c.ta 5 + k
def rCells (c : Cfg) : Int := rDeques c + rAll c + 5 * c.ta

theorem mul_in {a b A B : Int} (h0 : 0 ≤ a) (h1 : a ≤ A) (h2 : 0 ≤ b) (h3 : b ≤ B) : 0 ≤ a * b ∧ a * b ≤ A * B :=
  ⟨Int.mul_nonneg h0 h2, Int.mul_le_mul h1 h3 h2 (Int.le_trans h0 h1)⟩
theorem CfgIn.wl {c : Cfg} (h : CfgIn c) : 1 ≤ c.wo * c.le ∧ c.wo * c.le ≤ 1024 := by
  have h1 := h.wo
  have h2 := h.le
  have h3 := mul_in (a := c.wo - 1) (b := c.le - 1) (by omega) (Int.le_refl _) (by omega) (Int.le_refl _)
  have h4 : (c.wo - 1) * (c.le - 1) = c.wo * c.le - c.wo - c.le + 1 := by
    rw [Int.sub_mul, Int.mul_sub]; omega
  have := (mul_in (a := c.wo) (b := c.le) (by omega) h1.2 (by omega) h2.2).2
  omega
theorem CfgIn.all {c : Cfg} (h : CfgIn c) : 0 ≤ rAll c ∧ rAll c ≤ 67584 := by
  have h1 := h.wl
  have h2 := h.de
  exact mul_in (by omega) h1.2 (by omega) (by omega : 2 + c.de ≤ 66)
theorem CfgIn.deques {c : Cfg} (h : CfgIn c) : 0 ≤ rDeques c ∧ rDeques c ≤ 200 := by
  have h1 := h.he
  have h2 := h.cl
  have h3 := h.wo
  unfold rDeques
  omega
theorem CfgIn.cells {c : Cfg} (h : CfgIn c) : 5 ≤ rCells c ∧ rCells c ≤ 70000 := by
  have h1 := h.all
  have h2 := h.he
  have h3 := h.cl
  have h4 := h.wo
  have h5 := h.ta
  unfold rCells rDeques
  omega
/-- A place of a deque is within those of all deques. -/
theorem CfgIn.at_ {c : Cfg} (h : CfgIn c) {w l : Int} (hq : qIn c w l) : 0 ≤ w * c.le ∧ w * c.le + l + 1 ≤ 1024 ∧ 0 ≤ (w * c.le + l) * (2 + c.de) ∧ (w * c.le + l) * (2 + c.de) + (2 + c.de) ≤ rAll c := by
  obtain ⟨q0, q1, q2, q3⟩ := hq
  have h1 := h.le
  have h2 := h.de
  have h3 := h.wl
  have h4 : w * c.le + c.le ≤ c.wo * c.le := by
    have := Int.mul_le_mul_of_nonneg_right (show w + 1 ≤ c.wo by omega) (show 0 ≤ c.le by omega)
    rw [Int.add_mul] at this
    omega
  have h5 : 0 ≤ w * c.le := Int.mul_nonneg q0 (by omega)
  refine ⟨h5, by omega, Int.mul_nonneg (by omega) (by omega), ?_⟩
  have h6 := Int.mul_le_mul_of_nonneg_right (show w * c.le + l + 1 ≤ c.wo * c.le by omega) (show 0 ≤ 2 + c.de by omega)
  rw [Int.add_mul] at h6
  unfold rAll
  omega

def rQueue (c : Cfg) (w l : Int) : Int × Int × Int × Int := if qIn c w l then (rAt c w l, rAt c w l + 1, rAt c w l + 2, c.de) else (-1, -1, -1, 0)
end Go.Proofs.Ytanbjdlaolgepaa

namespace Go.Proofs.Ytanbjdlaolgepaa
open Go Go.RowKit
set_option linter.unusedSimpArgs false

/-- An event. -/
structure Ev where
  kd : Int
  wk : Int
  tk : Int
  ot : Int
  lv : Int
  deriving DecidableEq
abbrev evV (e : Ev) : Array Value := #[.int .i64 e.kd, .int .i64 e.wk, .int .i64 e.tk, .int .i64 e.ot, .int .i64 e.lv]
def cellsV : List Ev → List Value
  | [] => []
  | e :: r => .int .i64 e.kd :: .int .i64 e.wk :: .int .i64 e.tk :: .int .i64 e.ot :: .int .i64 e.lv :: cellsV r
theorem cellsV_length : ∀ l : List Ev, (cellsV l).length = l.length * 5
  | [] => rfl
  | e :: r => by
    simp only [cellsV, List.length_cons, cellsV_length r]
    omega
theorem cellsV_append : ∀ a b : List Ev, cellsV (a ++ b) = cellsV a ++ cellsV b
  | [], _ => rfl
  | e :: r, b => by simp [cellsV, cellsV_append r b]
theorem cellsV_one (l : List Ev) : ∀ u ∈ cellsV l, u.oneCell' = true := by
  induction l with
  | nil => intro u hu; cases hu
  | cons e r ih =>
    intro u hu
    simp only [cellsV, List.mem_cons] at hu
    rcases hu with rfl | rfl | rfl | rfl | rfl | hu
    · rfl
    · rfl
    · rfl
    · rfl
    · rfl
    · exact ih u hu
/-- Cell j of element i. -/
theorem cellsV_at : ∀ (l : List Ev) (i j : Nat) (e : Ev), l[i]? = some e → j < 5 → (cellsV l)[i * 5 + j]? = (evV e)[j]?
  | [], _, _, _, h, _ => by simp at h
  | x :: r, 0, j, e, h, hj => by
    simp only [List.getElem?_cons_zero, Option.some.injEq] at h
    subst h
    match j, hj with
    | 0, _ => rfl
    | 1, _ => rfl
    | 2, _ => rfl
    | 3, _ => rfl
    | 4, _ => rfl
    | j + 5, hj => omega
  | x :: r, i + 1, j, e, h, hj => by
    have := cellsV_at r i j e (by simpa using h) hj
    rw [show (i + 1) * 5 + j = i * 5 + j + 1 + 1 + 1 + 1 + 1 by omega]
    simpa [cellsV] using this
/-- A row of events of the call's own. -/
def OwnE (w : World) (base : Nat) (v : Value) (l : List Ev) : Prop := w.ownsRow base 61 5 v l.length (cellsV l)
end Go.Proofs.Ytanbjdlaolgepaa

namespace Go.Proofs.Ytanbjdlaolgepaa
open Go Go.RowKit
set_option linter.unusedSimpArgs false

/-- The place above, as the drawn statement has it, and as the other one has it. -/
abbrev parD (i : Int) : Int := IntKind.i64.wrap ((IntKind.i64.wrap (i - 1)).tdiv 2)
abbrev parI (i : Int) : Int := wrap64 ((wrap64 (i - 1)).tdiv 2)
/-- A line of insert. -/
def insertS (c : Cfg) (s : St) (f : Fra) : St × Fra × Res :=
  if f.ln = 1 then
    if c.he ≤ wrap64 (s.old 2) then (s.go 1 2 id, { f with fn := wrap64 (s.old 2) }, ⟨true, 3, 0⟩) else (s.go 1 2 id, { f with fn := wrap64 (s.old 2), ln := 2 }, .none)
  else if f.ln = 2 then
    if Keyed f.fa (IntKind.i64.wrap (s.old 3)) f.fb then (s.go 6 3 (fun x => IntKind.u64.wrap (x + 1)), { f with fw := keyS f.fa (IntKind.i64.wrap (s.old 3)) f.fb, fi := f.fn, ln := if f.fn ≤ 0 then 5 else 3 }, .none)
    else (s.go 6 3 (fun x => IntKind.u64.wrap (x + 1)), f, ⟨true, 4, 0⟩)
  else if f.ln = 3 then (s.go 1 (rSlot c (parD f.fi)) id, { f with fx := s.old (rSlot c (parD f.fi)), ln := if s.old (rSlot c (parD f.fi)) ≤ f.fw then 5 else 4 }, .none)
  else if f.ln = 4 then (s.go 2 (rSlot c f.fi) (fun _ => f.fx), { f with fi := parI f.fi, ln := if parI f.fi ≤ 0 then 5 else 3 }, .none)
  else if f.ln = 5 then (s.go 2 (rSlot c f.fi) (fun _ => f.fw), { f with ln := 6 }, .none)
  else (s.go 2 2 (fun _ => IntKind.u64.wrap (wrap64 (f.fn + 1))), f, ⟨true, 0, 0⟩)
/-- Line 5 if the place has a child, and line 8 otherwise. -/
def childN (i n : Int) : Int := if wrap64 (wrap64 (2 * i) + 1) < wrap64 (n - 1) then 5 else 8
def lessN (x y : Int) : Int := if x < y then 7 else 8
/-- remove: memory, events, frame, result. -/
def removeS (c : Cfg) (s : St) (es : List Ev) (f : Fra) : St × List Ev × Fra × Res :=
  if f.ln = 1 then (s.go 1 2 id, es, if wrap64 (s.old 2) ≤ 0 then { f with fn := wrap64 (s.old 2) } else { f with fn := wrap64 (s.old 2), ln := 2 }, if wrap64 (s.old 2) ≤ 0 then ⟨true, 2, 0⟩ else .none)
  else if f.ln = 2 then (s.go 1 (rSlot c 0) id, es, { f with fu := s.old (rSlot c 0), ln := 3 }, .none)
  else if f.ln = 3 then (s.go 1 (rSlot c (IntKind.i64.wrap (f.fn - 1))) id, es, { f with fv := s.old (rSlot c (IntKind.i64.wrap (f.fn - 1))), ln := 4 }, .none)
  else if f.ln = 4 then (s.go 2 2 (fun _ => IntKind.u64.wrap (wrap64 (f.fn - 1))), es ++ [⟨13, f.fa, f.fu % 65536, 0, 0⟩], if f.fn = 1 then f else { f with fi := 0, ln := childN 0 f.fn }, if f.fn = 1 then ⟨true, 1, f.fu % 65536⟩ else .none)
  else if f.ln = 5 then
    (s.go 1 (rSlot c (wrap64 (wrap64 (2 * f.fi) + 1))) id, es, { f with fj := wrap64 (wrap64 (2 * f.fi) + 1), fw := s.old (rSlot c (wrap64 (wrap64 (2 * f.fi) + 1))), ln := if wrap64 (f.fn - 1) ≤ wrap64 (wrap64 (2 * f.fi) + 2) then lessN (s.old (rSlot c (wrap64 (wrap64 (2 * f.fi) + 1)))) f.fv else 6 }, .none)
  else if f.ln = 6 then
    (s.go 1 (rSlot c (wrap64 (wrap64 (2 * f.fi) + 2))) id, es, if s.old (rSlot c (wrap64 (wrap64 (2 * f.fi) + 2))) < f.fw then { f with fw := s.old (rSlot c (wrap64 (wrap64 (2 * f.fi) + 2))), fj := wrap64 (wrap64 (2 * f.fi) + 2), ln := lessN (s.old (rSlot c (wrap64 (wrap64 (2 * f.fi) + 2)))) f.fv } else { f with ln := lessN f.fw f.fv }, .none)
  else if f.ln = 7 then (s.go 2 (rSlot c f.fi) (fun _ => f.fw), es, { f with fi := f.fj, ln := childN f.fj f.fn }, .none)
  else (s.go 2 (rSlot c f.fi) (fun _ => f.fv), es, f, ⟨true, 1, f.fu % 65536⟩)

theorem wrap_two (x : Int) : IntKind.i64.wrap x = wrap64 x := by rw [IntKind.wrap_i64]; unfold wrap64; omega
