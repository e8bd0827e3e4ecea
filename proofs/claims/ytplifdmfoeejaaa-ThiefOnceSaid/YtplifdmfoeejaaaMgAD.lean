/-
  Frames of the reference's machines as plain data, results, sizes, cells of indices; the lines of push and pop. No function and no type is named.
  Small words on what a call leaves alone.
  Package memory: Load.
-/
import Derived.Test.YtplifdmfoeejaaaMgAA
import Derived.WalkSpells
import Derived.WalkLawsBesides
import Derived.Lib.Hide
import Derived.Maps.AppendAt
import Derived.Deep.Slices
import Derived.Deep.OwnRows
import Derived.Deep.QuietTactic
import Derived.BigQuiet
import Derived.BigRegion
import Derived.Deep.RegionHeld3
import Derived.Deep.RegionLaw
import Derived.StillTailTactics
import Derived.Test.YtplifdmfoeejaaaMgAB
namespace Go.Proofs.Ytplifdmfoeejaaa
open Go Go.RowKit
set_option linter.unusedSimpArgs false

/-- A frame: its kind, its line, the deque, its numbers, its words, its list's slice. -/
structure Fra where
  kd : Int
  ln : Int
  qt : Int
  qb : Int
  qr : Int
  qc : Int
  fa : Int
  fb : Int
  fd : Int
  fi : Int
  fj : Int
  fn : Int
  ft : Int
  fu : Int
  fv : Int
  fw : Int
  fx : Int
  fl : Value
/-- Its cells. -/
abbrev fcells (f : Fra) : List Value := [.int .i64 f.kd, .int .i64 f.ln, .int .i64 f.qt, .int .i64 f.qb, .int .i64 f.qr, .int .i64 f.qc, .int .i64 f.fa, .int .i64 f.fb, .int .i64 f.fd, .int .i64 f.fi, .int .i64 f.fj, .int .i64 f.fn, .int .i64 f.ft, .int .u64 f.fu, .int .u64 f.fv, .int .u64 f.fw, .int .u64 f.fx, f.fl]
/-- A result. -/
structure Res where
  dn : Bool
  cd : Int
  vl : Int
abbrev Res.none : Res := ⟨false, 0, 0⟩
abbrev rcells' (r : Res) : Array Value := #[.bool r.dn, .int .i64 r.cd, .int .i64 r.vl]
/-- The size of a deque, the cell of an index. -/
def sizeI (b t : Int) : Int := wrap64 (IntKind.u64.wrap (b - t))
/-- The value of a deque. -/
abbrev qv (t b r k : Int) : Value := .agg #[.int .i64 t, .int .i64 b, .int .i64 r, .int .i64 k]
def ringI (r k i : Int) : Int := if k < 1 then -1 else wrap64 (r + wrap64 (i % k))

/-- A line of push. -/
def pushS (s : St) (f : Fra) : St × Fra × Res :=
  if f.ln = 1 then (s.go 1 f.qb id, { f with fu := s.old f.qb, ln := 2 }, .none)
  else if f.ln = 2 then
    if f.qc ≤ sizeI f.fu (s.old f.qt) then (s.go 1 f.qt id, { f with fv := s.old f.qt }, ⟨true, 3, 0⟩)
    else (s.go 1 f.qt id, { f with fv := s.old f.qt, ln := 3 }, .none)
  else if f.ln = 3 then (s.go 2 (ringI f.qr f.qc f.fu) (fun _ => IntKind.u64.wrap f.fa), { f with ln := 4 }, .none)
  else (s.go 2 f.qb (fun _ => IntKind.u64.wrap (f.fu + 1)), f, ⟨true, 0, 0⟩)
theorem u64_nn (x : Int) : 0 ≤ IntKind.u64.wrap x := by rw [IntKind.wrap_u64]; exact Int.emod_nonneg _ (by decide)
abbrev sub1 (u : Int) : Int := IntKind.u64.wrap (u - 1)
abbrev add1 (u : Int) : Int := IntKind.u64.wrap (u + 1)
/-- The line behind line 4 of pop. -/
def pop4 (z : Int) : Int := if z = 0 then 6 else if z < 0 then 9 else 5
/-- A line of pop. -/
def popS (s : St) (f : Fra) : St × Fra × Res :=
  if f.ln = 1 then (s.go 1 f.qb id, { f with fu := s.old f.qb, ln := 2 }, .none)
  else if f.ln = 2 then
    if sizeI f.fu (s.old f.qt) ≤ 0 then (s.go 1 f.qt id, { f with fv := s.old f.qt }, ⟨true, 2, 0⟩)
    else (s.go 1 f.qt id, { f with fv := s.old f.qt, ln := 3 }, .none)
  else if f.ln = 3 then (s.go 2 f.qb (fun _ => sub1 f.fu), { f with ln := 4 }, .none)
  else if f.ln = 4 then (s.go 1 f.qt id, { f with fv := s.old f.qt, ln := pop4 (sizeI (sub1 f.fu) (s.old f.qt)) }, .none)
  else if f.ln = 5 ∨ f.ln = 8 then (s.go 1 (ringI f.qr f.qc (sub1 f.fu)) id, f, ⟨true, 1, IntKind.i64.wrap (s.old (ringI f.qr f.qc (sub1 f.fu)))⟩)
  else if f.ln = 6 then (s.go 3 f.qt (fun x => if x = f.fv then add1 f.fv else x), { f with ln := if s.hit f.qt f.fv then 7 else 9 }, .none)
  else if f.ln = 7 then (s.go 2 f.qb (fun _ => f.fu), { f with ln := 8 }, .none)
  else (s.go 2 f.qb (fun _ => f.fu), f, ⟨true, 2, 0⟩)
/-- A line of steal. -/
def stealS (s : St) (f : Fra) : St × Fra × Res :=
  if f.ln = 1 then (s.go 1 f.qt id, { f with fv := s.old f.qt, ln := 2 }, .none)
  else if f.ln = 2 then
    if sizeI (s.old f.qb) f.fv ≤ 0 then (s.go 1 f.qb id, { f with fu := s.old f.qb }, ⟨true, 2, 0⟩)
    else (s.go 1 f.qb id, { f with fu := s.old f.qb, ln := 3 }, .none)
  else if f.ln = 3 then (s.go 1 (ringI f.qr f.qc f.fv) id, { f with fw := s.old (ringI f.qr f.qc f.fv), ln := 4 }, .none)
  else (s.go 3 f.qt (fun x => if x = f.fv then add1 f.fv else x), f, if s.hit f.qt f.fv then ⟨true, 1, wrap64 f.fw⟩ else ⟨true, 4, 0⟩)
end Go.Proofs.Ytplifdmfoeejaaa

namespace Go.Proofs.Ytplifdmfoeejaaa
open Go Go.RowKit

theorem block_add (x : Addr) (i : Nat) : (x.add i).block = x.block := by unfold Addr.add; split <;> rfl
theorem below_one (w : World) (o : Obj) : Below w.heap.size w (w.alloc o) := (Below.refl _ _).alloc (Nat.le_refl _) o
theorem below_drew {w w' : World} {B : Nat} (h : Below B w w') : Below B w w'.drew := ⟨h.os, h.tape, h.output, h.size, h.block⟩
theorem below_drewN (w : World) (m : Nat) : Below w.heap.size w (w.drewN m) := ⟨rfl, rfl, rfl, Nat.le_refl _, fun _ _ => rfl⟩
theorem below_fr {w w' : World} (h : Below w.heap.size w w') : Fr [] w w' := Fr.old h
theorem fr_below {w w' : World} (h : Fr [] w w') : Below w.heap.size w w' := h.below (Nat.le_refl _) (fun k hk => by cases hk)
theorem bcell {W w1 : World} (hb : Below W.heap.size W w1) : (∀ b o, b < W.heap.size → w1.cell? ⟨b, o, none⟩ = W.cell? ⟨b, o, none⟩) ∧ (∀ b o, b < W.heap.size → w1.frozen? ⟨b, o, none⟩ = W.frozen? ⟨b, o, none⟩) :=
  ⟨fun b o h => hb.cell (p := ⟨b, o, none⟩) h, fun b o h => hb.frozen (p := ⟨b, o, none⟩) h⟩

theorem Blk.below {w w' : World} {g : Nat} {t : TypeId} {cs : Array Value} (h : Blk w g t cs) (hb : Below w.heap.size w w') : Blk w' g t cs := h.of_same (hb.block g h.lt)
theorem Blk.alloc {w : World} {g : Nat} {t : TypeId} {cs : Array Value} (h : Blk w g t cs) (o : Obj) : Blk (w.alloc o) g t cs := h.below (below_one w o)
theorem Blk.grown {w w' : World} {g : Nat} {t : TypeId} {cs : Array Value} {row : Option Nat} (h : Blk w g t cs) (hg : w.grownBy w' row) (hne : row ≠ some g) : Blk w' g t cs := h.of_same (hg.block g h.lt (fun e => hne e.symm))

/-- A cell behind the head of a struct, as the walk spells it. -/
theorem cell_field {w : World} {x : Addr} {i j : Nat} {u : Value} (h : w.cell? (x.add (i + (j + 1))) = some u) : w.cell? ⟨(x.add i).block, (x.add i).off + (j + 1), none⟩ = some u := by
  have e : x.add (i + (j + 1)) = ⟨(x.add i).block, (x.add i).off + (j + 1), none⟩ := by
    unfold Addr.add
    by_cases hi : i = 0
    · subst hi
      simp
    · rw [if_neg (by omega), if_neg (by omega)]
      simp [Nat.add_assoc]
  rw [← e]
  exact h
/-- A result in a cell and one in a slot. -/
theorem results_cell_tmp {P : Program} {fn : Func} {p q : Tmp} {ty : TypeId} (h : fn.results = #[.cell p ty, .tmp q]) (tmps : Array Value) (w : World) (g : Nat) (t : TypeId) (cs : Array Value) (fr : Nat × Nat) (d : TypeDesc) (v : Value)
    (hp : tmps.getD p undef = .pointer (some ⟨g, 0, none⟩)) (hq : tmps.getD q undef = v) (hg : w.heap[g]? = some (.cells cs t fr))
    (hu : P.underlying ty = some d) (hd : (match d with | .struct _ | .array _ _ => true | _ => false) = true) (hi : (P.info? ty).map (·.size) = some cs.size) :
    (results fn tmps).run P w = .ok (.tuple #[.agg cs, v]) w := by
  have hp' : tmps[p]?.getD undef = .pointer (some ⟨g, 0, none⟩) := by simpa using hp
  have hq' : tmps[q]?.getD undef = v := by simpa using hq
  simp [results, h, hp', hq', asAddr, run_loadVar_row w g t ty cs fr d hg hu hd hi]
theorem below_of_fr {w0 w w' : World} {S : List Nat} (h : Below w0.heap.size w0 w) (hf : Fr S w w') (hs : ∀ x ∈ S, w0.heap.size ≤ x) : Below w0.heap.size w0 w' :=
  h.trans (hf.below h.size hs)
end Go.Proofs.Ytplifdmfoeejaaa

namespace Go.Proofs.Ytplifdmfoeejaaa
open Go Go.RowKit Go.Shelf

theorem load_fn (x : Int) (w : World) : Calls Try.prog 80 #[.int .u64 x] w fun e w' => e = .returned (.int .u64 x) ∧ w = w' := by
  go_enter Try.func80, Try.ntmps80
  go_wp2
  go_ret
  exact ⟨rfl, rfl⟩

theorem load_any {w : World} {p g cap : Nat} {s : St} (h : Mem w p g cap s) (i : Int) :
    Calls Try.prog 79 #[.pointer (some ⟨p, 0, none⟩), .int .i64 i] w fun e w' => e = .returned (.int .u64 (s.old i)) ∧ Mem w' p g cap (s.go 1 i id) ∧ Fr [p, g] w w' := by
  have H := access_any h 1 i 80 #[] id (enters_of Try.func80 (by kernel_rfl) rfl) (fun x => load_fn x w)
  generalize s.old i = x at *
  generalize decide (s.has i) = b at *
  go_enter Try.func79, Try.ntmps79
  go_wp2_with fail
  refine H.mono ?_
  rintro e w' ⟨rfl, hm, hfr⟩
  go_wp2
  go_ret
  exact ⟨rfl, hm, hfr⟩
end Go.Proofs.Ytplifdmfoeejaaa
