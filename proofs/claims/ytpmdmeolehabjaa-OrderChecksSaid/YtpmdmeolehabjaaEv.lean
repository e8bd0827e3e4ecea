/-
  Events as plain data.
-/
import Derived.Test.YtpmdmeolehabjaaBlk
namespace Go.Proofs.Ytpmdmeolehabjaa
open Go Go.RowKit
set_option linter.unusedSimpArgs false

/-- An event. -/
structure Ev where
  kd : Int
  wk : Int
  tk : Int
  ot : Int
  lv : Int
  deriving DecidableEq
abbrev evV (e : Ev) : Array Value := #[.int .i64 e.kd, .int .i64 e.wk, .int .i64 e.tk, .int .i64 e.ot, .int .i64 e.lv]
def cellsV : List Ev → List Value
  | [] => []
  | e :: r => .int .i64 e.kd :: .int .i64 e.wk :: .int .i64 e.tk :: .int .i64 e.ot :: .int .i64 e.lv :: cellsV r
theorem cellsV_length : ∀ l : List Ev, (cellsV l).length = l.length * 5
  | [] => rfl
  | e :: r => by
    simp only [cellsV, List.length_cons, cellsV_length r]
    omega
theorem cellsV_append : ∀ a b : List Ev, cellsV (a ++ b) = cellsV a ++ cellsV b
  | [], _ => rfl
  | e :: r, b => by simp [cellsV, cellsV_append r b]
theorem cellsV_one (l : List Ev) : ∀ u ∈ cellsV l, u.oneCell' = true := by
  induction l with
  | nil => intro u hu; cases hu
  | cons e r ih =>
    intro u hu
    simp only [cellsV, List.mem_cons] at hu
    rcases hu with rfl | rfl | rfl | rfl | rfl | hu
    · rfl
    · rfl
    · rfl
    · rfl
    · rfl
    · exact ih u hu
/-- Cell j of element i. -/
theorem cellsV_at : ∀ (l : List Ev) (i j : Nat) (e : Ev), l[i]? = some e → j < 5 → (cellsV l)[i * 5 + j]? = (evV e)[j]?
  | [], _, _, _, h, _ => by simp at h
  | x :: r, 0, j, e, h, hj => by
    simp only [List.getElem?_cons_zero, Option.some.injEq] at h
    subst h
    match j, hj with
    | 0, _ => rfl
    | 1, _ => rfl
    | 2, _ => rfl
    | 3, _ => rfl
    | 4, _ => rfl
    | j + 5, hj => omega
  | x :: r, i + 1, j, e, h, hj => by
    have := cellsV_at r i j e (by simpa using h) hj
    rw [show (i + 1) * 5 + j = i * 5 + j + 1 + 1 + 1 + 1 + 1 by omega]
    simpa [cellsV] using this
/-- A row of events of the call's own. -/
def OwnE (w : World) (base : Nat) (v : Value) (l : List Ev) : Prop := w.ownsRow base 39 5 v l.length (cellsV l)
end Go.Proofs.Ytpmdmeolehabjaa
