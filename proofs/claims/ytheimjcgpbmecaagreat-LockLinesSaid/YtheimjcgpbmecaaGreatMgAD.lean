/-
  The accesses through the reference's environment: load, store, cas, or, and, add.
  Frames of the reference's machines as plain data, results, sizes, cells of indices; the lines of push and pop. No function and no type is named.
  The reference's Size and Ring.
  Frames of the reference's machines in memory. No function is named.
  The reference's end; what lines of frames share.
  Rows of the call's own: of triples, of programs; appending to them.
-/
import Derived.Test.YtheimjcgpbmecaaGreatMgAC
import Derived.Test.YtheimjcgpbmecaaGreatMgAA
import Derived.Lib.Hide
import Derived.Deep.QuietTactic
import Derived.BigQuiet
import Derived.Deep.CutRange
namespace Go.Proofs.YtheimjcgpbmecaaGreat
open Go Go.RowKit
set_option linter.unusedSimpArgs false

theorem eload_any {w : World} {p : Nat} {a : EnvA} {s : St} (h : EnvM w p a s) (i : Int)  :
    Calls Tryz.prog 104 #[.pointer (some ⟨p, 0, none⟩), .int .i64 i] w fun e w' => e = .returned (.int .u64 (s.old i)) ∧ EnvM w' p a (s.go 1 i id) ∧ Fr [p, a.g] w w' := by
  by_cases hi : s.has i
  · obtain ⟨j, rfl⟩ : ∃ j : Nat, i = (j : Int) := ⟨i.toNat, by have := hi.1; omega⟩
    have HA := Lib.hid (eacc_load h (j := j) (by have := hi.2; omega) 0 0)
    simp only [St.old, St.go, if_pos hi, Int.toNat_natCast]
    go_enter Tryz.func104, Tryz.ntmps104
    go_wp2_with fail
    (with_reducible refine HA.out.mono ?_)
    rintro e w1 ⟨rfl, hm, hf⟩
    have HM := Lib.hid hm
    have HF := Lib.hid hf
    clear hm hf
    go_wp2
    go_ret
    exact ⟨rfl, HM.out, HF.out⟩
  · have HA := Lib.hid (eacc_no h (St.has_no hi) 1 0 0)
    simp only [St.old, St.go, if_neg hi]
    have HM := Lib.hid h
    clear h
    go_enter Tryz.func104, Tryz.ntmps104
    go_wp2_with fail
    (with_reducible refine HA.out.mono ?_)
    rintro e w1 ⟨rfl, rfl⟩
    go_wp2
    go_ret
    exact ⟨rfl, HM.out, Fr.refl _ _⟩
theorem estore_any {w : World} {p : Nat} {a : EnvA} {s : St} (h : EnvM w p a s) (i : Int) (v : Int) :
    Calls Tryz.prog 107 #[.pointer (some ⟨p, 0, none⟩), .int .i64 i, .int .u64 v] w fun e w' => e = .returned (.tuple #[]) ∧ EnvM w' p a (s.go 2 i (fun _ => v)) ∧ Fr [p, a.g] w w' := by
  by_cases hi : s.has i
  · obtain ⟨j, rfl⟩ : ∃ j : Nat, i = (j : Int) := ⟨i.toNat, by have := hi.1; omega⟩
    have HA := Lib.hid (eacc_store h (j := j) (by have := hi.2; omega) v 0)
    simp only [St.old, St.go, if_pos hi, Int.toNat_natCast]
    go_enter Tryz.func107, Tryz.ntmps107
    go_wp2_with fail
    (with_reducible refine HA.out.mono ?_)
    rintro e w1 ⟨rfl, hm, hf⟩
    have HM := Lib.hid hm
    have HF := Lib.hid hf
    clear hm hf
    go_wp2
    go_end0
    exact ⟨rfl, HM.out, HF.out⟩
  · have HA := Lib.hid (eacc_no h (St.has_no hi) 2 v 0)
    simp only [St.old, St.go, if_neg hi]
    have HM := Lib.hid h
    clear h
    go_enter Tryz.func107, Tryz.ntmps107
    go_wp2_with fail
    (with_reducible refine HA.out.mono ?_)
    rintro e w1 ⟨rfl, rfl⟩
    go_wp2
    go_end0
    exact ⟨rfl, HM.out, Fr.refl _ _⟩
theorem eor_any {w : World} {p : Nat} {a : EnvA} {s : St} (h : EnvM w p a s) (i : Int) (v : Int) :
    Calls Tryz.prog 100 #[.pointer (some ⟨p, 0, none⟩), .int .i64 i, .int .u64 v] w fun e w' => e = .returned (.int .u64 (s.old i)) ∧ EnvM w' p a (s.go 4 i (fun x => bits .or .u64 x v)) ∧ Fr [p, a.g] w w' := by
  by_cases hi : s.has i
  · obtain ⟨j, rfl⟩ : ∃ j : Nat, i = (j : Int) := ⟨i.toNat, by have := hi.1; omega⟩
    have HA := Lib.hid (eacc_or h (j := j) (by have := hi.2; omega) v 0)
    simp only [St.old, St.go, if_pos hi, Int.toNat_natCast]
    go_enter Tryz.func100, Tryz.ntmps100
    go_wp2_with fail
    (with_reducible refine HA.out.mono ?_)
    rintro e w1 ⟨rfl, hm, hf⟩
    have HM := Lib.hid hm
    have HF := Lib.hid hf
    clear hm hf
    go_wp2
    go_ret
    exact ⟨rfl, HM.out, HF.out⟩
  · have HA := Lib.hid (eacc_no h (St.has_no hi) 4 v 0)
    simp only [St.old, St.go, if_neg hi]
    have HM := Lib.hid h
    clear h
    go_enter Tryz.func100, Tryz.ntmps100
    go_wp2_with fail
    (with_reducible refine HA.out.mono ?_)
    rintro e w1 ⟨rfl, rfl⟩
    go_wp2
    go_ret
    exact ⟨rfl, HM.out, Fr.refl _ _⟩
theorem eand_any {w : World} {p : Nat} {a : EnvA} {s : St} (h : EnvM w p a s) (i : Int) (v : Int) :
    Calls Tryz.prog 137 #[.pointer (some ⟨p, 0, none⟩), .int .i64 i, .int .u64 v] w fun e w' => e = .returned (.int .u64 (s.old i)) ∧ EnvM w' p a (s.go 5 i (fun x => bits .and .u64 x v)) ∧ Fr [p, a.g] w w' := by
  by_cases hi : s.has i
  · obtain ⟨j, rfl⟩ : ∃ j : Nat, i = (j : Int) := ⟨i.toNat, by have := hi.1; omega⟩
    have HA := Lib.hid (eacc_and h (j := j) (by have := hi.2; omega) v 0)
    simp only [St.old, St.go, if_pos hi, Int.toNat_natCast]
    go_enter Tryz.func137, Tryz.ntmps137
    go_wp2_with fail
    (with_reducible refine HA.out.mono ?_)
    rintro e w1 ⟨rfl, hm, hf⟩
    have HM := Lib.hid hm
    have HF := Lib.hid hf
    clear hm hf
    go_wp2
    go_ret
    exact ⟨rfl, HM.out, HF.out⟩
  · have HA := Lib.hid (eacc_no h (St.has_no hi) 5 v 0)
    simp only [St.old, St.go, if_neg hi]
    have HM := Lib.hid h
    clear h
    go_enter Tryz.func137, Tryz.ntmps137
    go_wp2_with fail
    (with_reducible refine HA.out.mono ?_)
    rintro e w1 ⟨rfl, rfl⟩
    go_wp2
    go_ret
    exact ⟨rfl, HM.out, Fr.refl _ _⟩
theorem eadd_any {w : World} {p : Nat} {a : EnvA} {s : St} (h : EnvM w p a s) (i : Int) (v : Int) :
    Calls Tryz.prog 140 #[.pointer (some ⟨p, 0, none⟩), .int .i64 i, .int .u64 v] w fun e w' => e = .returned (.int .u64 (s.old i)) ∧ EnvM w' p a (s.go 6 i (fun x => IntKind.u64.wrap (x + v))) ∧ Fr [p, a.g] w w' := by
  by_cases hi : s.has i
  · obtain ⟨j, rfl⟩ : ∃ j : Nat, i = (j : Int) := ⟨i.toNat, by have := hi.1; omega⟩
    have HA := Lib.hid (eacc_add h (j := j) (by have := hi.2; omega) v 0)
    simp only [St.old, St.go, if_pos hi, Int.toNat_natCast]
    go_enter Tryz.func140, Tryz.ntmps140
    go_wp2_with fail
    (with_reducible refine HA.out.mono ?_)
    rintro e w1 ⟨rfl, hm, hf⟩
    have HM := Lib.hid hm
    have HF := Lib.hid hf
    clear hm hf
    go_wp2
    go_ret
    exact ⟨rfl, HM.out, HF.out⟩
  · have HA := Lib.hid (eacc_no h (St.has_no hi) 6 v 0)
    simp only [St.old, St.go, if_neg hi]
    have HM := Lib.hid h
    clear h
    go_enter Tryz.func140, Tryz.ntmps140
    go_wp2_with fail
    (with_reducible refine HA.out.mono ?_)
    rintro e w1 ⟨rfl, rfl⟩
    go_wp2
    go_ret
    exact ⟨rfl, HM.out, Fr.refl _ _⟩
theorem ecas_any {w : World} {p : Nat} {a : EnvA} {s : St} (h : EnvM w p a s) (i b d : Int) :
    Calls Tryz.prog 106 #[.pointer (some ⟨p, 0, none⟩), .int .i64 i, .int .u64 b, .int .u64 d] w fun e w' => e = .returned (.bool (s.hit i b)) ∧ EnvM w' p a (s.go 3 i fun x => if x = b then d else x) ∧ Fr [p, a.g] w w' := by
  unfold St.hit
  by_cases hi : s.has i
  · obtain ⟨j, rfl⟩ : ∃ j : Nat, i = (j : Int) := ⟨i.toNat, by have := hi.1; omega⟩
    have hj : j < s.X.length := by have := hi.2; omega
    simp only [St.old, St.go, if_pos hi, Int.toNat_natCast, decide_eq_true hi]
    by_cases hx : s.X.getD j 0 = b
    · have HA := Lib.hid (eacc_cas_yes h hj b d hx)
      rw [if_pos hx, hx]
      go_enter Tryz.func106, Tryz.ntmps106
      go_wp2_with fail
      (with_reducible refine HA.out.mono ?_)
      rintro e w1 ⟨rfl, hm, hf⟩
      have HM := Lib.hid hm
      have HF := Lib.hid hf
      clear hm hf hx
      go_wp2
      go_ret
      exact ⟨by simp, HM.out, HF.out⟩
    · have hb : (s.X.getD j 0 == b) = false := by simpa using hx
      have HA := Lib.hid (eacc_cas_no h hj b d hb)
      rw [if_neg hx, hb]
      go_enter Tryz.func106, Tryz.ntmps106
      go_wp2_with fail
      (with_reducible refine HA.out.mono ?_)
      rintro e w1 ⟨rfl, hm, hf⟩
      have HM := Lib.hid hm
      have HF := Lib.hid hf
      clear hm hf hx hb
      go_wp2
      go_ret
      exact ⟨rfl, HM.out, HF.out⟩
  · have HA := Lib.hid (eacc_no h (St.has_no hi) 3 b d)
    simp only [St.old, St.go, if_neg hi, decide_eq_false hi]
    have HM := Lib.hid h
    clear h
    go_enter Tryz.func106, Tryz.ntmps106
    go_wp2_with fail
    (with_reducible refine HA.out.mono ?_)
    rintro e w1 ⟨rfl, rfl⟩
    go_wp2
    go_ret
    exact ⟨rfl, HM.out, Fr.refl _ _⟩
end Go.Proofs.YtheimjcgpbmecaaGreat

namespace Go.Proofs.YtheimjcgpbmecaaGreat
open Go Go.RowKit
set_option linter.unusedSimpArgs false

/-- A frame: its kind, its line, the deque, its numbers, its words, its list's slice. -/
structure Fra where
  kd : Int
  ln : Int
  qt : Int
  qb : Int
  qr : Int
  qc : Int
  fa : Int
  fb : Int
  fd : Int
  fi : Int
  fj : Int
  fn : Int
  ft : Int
  fu : Int
  fv : Int
  fw : Int
  fx : Int
  fl : Value
/-- A frame at line 1. -/
abbrev fra1 (kd t b r k a : Int) : Fra := ⟨kd, 1, t, b, r, k, a, 0, 0, 0, 0, 0, 0, 0, 0, 0, 0, .slice none 0 0⟩
/-- Its cells. -/
abbrev fcells (f : Fra) : List Value := [.int .i64 f.kd, .int .i64 f.ln, .int .i64 f.qt, .int .i64 f.qb, .int .i64 f.qr, .int .i64 f.qc, .int .i64 f.fa, .int .i64 f.fb, .int .i64 f.fd, .int .i64 f.fi, .int .i64 f.fj, .int .i64 f.fn, .int .i64 f.ft, .int .u64 f.fu, .int .u64 f.fv, .int .u64 f.fw, .int .u64 f.fx, f.fl]
/-- A result. -/
structure Res where
  dn : Bool
  cd : Int
  vl : Int
abbrev Res.none : Res := ⟨false, 0, 0⟩
abbrev rcells' (r : Res) : Array Value := #[.bool r.dn, .int .i64 r.cd, .int .i64 r.vl]
/-- The size of a deque, the cell of an index. -/
def sizeI (b t : Int) : Int := wrap64 (IntKind.u64.wrap (b - t))
/-- The value of a deque. -/
abbrev qv (t b r k : Int) : Value := .agg #[.int .i64 t, .int .i64 b, .int .i64 r, .int .i64 k]
def ringI (r k i : Int) : Int := if k < 1 then -1 else wrap64 (r + wrap64 (i % k))

/-- A line of push. -/
def pushS (s : St) (f : Fra) : St × Fra × Res :=
  if f.ln = 1 then (s.go 1 f.qb id, { f with fu := s.old f.qb, ln := 2 }, .none)
  else if f.ln = 2 then
    if f.qc ≤ sizeI f.fu (s.old f.qt) then (s.go 1 f.qt id, { f with fv := s.old f.qt }, ⟨true, 3, 0⟩)
    else (s.go 1 f.qt id, { f with fv := s.old f.qt, ln := 3 }, .none)
  else if f.ln = 3 then (s.go 2 (ringI f.qr f.qc f.fu) (fun _ => IntKind.u64.wrap f.fa), { f with ln := 4 }, .none)
  else (s.go 2 f.qb (fun _ => IntKind.u64.wrap (f.fu + 1)), f, ⟨true, 0, 0⟩)
theorem u64_nn (x : Int) : 0 ≤ IntKind.u64.wrap x := by rw [IntKind.wrap_u64]; exact Int.emod_nonneg _ (by decide)
abbrev sub1 (u : Int) : Int := IntKind.u64.wrap (u - 1)
abbrev add1 (u : Int) : Int := IntKind.u64.wrap (u + 1)
/-- The line behind line 4 of pop. -/
def pop4 (z : Int) : Int := if z = 0 then 6 else if z < 0 then 9 else 5
/-- A line of pop. -/
def popS (s : St) (f : Fra) : St × Fra × Res :=
  if f.ln = 1 then (s.go 1 f.qb id, { f with fu := s.old f.qb, ln := 2 }, .none)
  else if f.ln = 2 then
    if sizeI f.fu (s.old f.qt) ≤ 0 then (s.go 1 f.qt id, { f with fv := s.old f.qt }, ⟨true, 2, 0⟩)
    else (s.go 1 f.qt id, { f with fv := s.old f.qt, ln := 3 }, .none)
  else if f.ln = 3 then (s.go 2 f.qb (fun _ => sub1 f.fu), { f with ln := 4 }, .none)
  else if f.ln = 4 then (s.go 1 f.qt id, { f with fv := s.old f.qt, ln := pop4 (sizeI (sub1 f.fu) (s.old f.qt)) }, .none)
  else if f.ln = 5 ∨ f.ln = 8 then (s.go 1 (ringI f.qr f.qc (sub1 f.fu)) id, f, ⟨true, 1, IntKind.i64.wrap (s.old (ringI f.qr f.qc (sub1 f.fu)))⟩)
  else if f.ln = 6 then (s.go 3 f.qt (fun x => if x = f.fv then add1 f.fv else x), { f with ln := if s.hit f.qt f.fv then 7 else 9 }, .none)
  else if f.ln = 7 then (s.go 2 f.qb (fun _ => f.fu), { f with ln := 8 }, .none)
  else (s.go 2 f.qb (fun _ => f.fu), f, ⟨true, 2, 0⟩)
/-- A line of steal. -/
def stealS (s : St) (f : Fra) : St × Fra × Res :=
  if f.ln = 1 then (s.go 1 f.qt id, { f with fv := s.old f.qt, ln := 2 }, .none)
  else if f.ln = 2 then
    if sizeI (s.old f.qb) f.fv ≤ 0 then (s.go 1 f.qb id, { f with fu := s.old f.qb }, ⟨true, 2, 0⟩)
    else (s.go 1 f.qb id, { f with fu := s.old f.qb, ln := 3 }, .none)
  else if f.ln = 3 then (s.go 1 (ringI f.qr f.qc f.fv) id, { f with fw := s.old (ringI f.qr f.qc f.fv), ln := 4 }, .none)
  else (s.go 3 f.qt (fun x => if x = f.fv then add1 f.fv else x), f, if s.hit f.qt f.fv then ⟨true, 1, wrap64 f.fw⟩ else ⟨true, 4, 0⟩)
end Go.Proofs.YtheimjcgpbmecaaGreat

namespace Go.Proofs.YtheimjcgpbmecaaGreat
open Go Go.RowKit
set_option linter.unusedSimpArgs false

theorem size_any (b t : Int) (w : World) : Calls Tryz.prog 134 #[.int .u64 b, .int .u64 t] w fun e w' => e = .returned (.int .i64 (sizeI b t)) ∧ w = w' := by
  go_enter Tryz.func134, Tryz.ntmps134
  go_wp2
  go_ret
  exact ⟨rfl, rfl⟩
theorem ring_any (t b r k i : Int) (hi : 0 ≤ i) (hk : k ≤ 9223372036854775807) (w : World) : Calls Tryz.prog 135 #[qv t b r k, .int .u64 i] w fun e w' => e = .returned (.int .i64 (ringI r k i)) ∧ Below w.heap.size w w' := by
  have HB := Lib.hid (below_one w (.cells #[.int .i64 t, .int .i64 b, .int .i64 r, .int .i64 k] 77))
  unfold ringI
  by_cases h1 : k < 1
  · rw [if_pos h1]
    go_enter Tryz.func135, Tryz.ntmps135
    go_wp2
    go_ret
    exact ⟨rfl, HB.out⟩
  · rw [if_neg h1]
    have hk1 : 1 ≤ k := by omega
    have s0 : IntKind.u64.wrap k = k := IntWalk.u64_in _ (by omega)
    go_enter Tryz.func135, Tryz.ntmps135
    go_wp2_with fail
    go_quiet (fail)
    go_wp2
    go_ret
    exact ⟨rfl, HB.out.trans ((below_drewN _ _).mono HB.out.size)⟩
end Go.Proofs.YtheimjcgpbmecaaGreat

namespace Go.Proofs.YtheimjcgpbmecaaGreat
open Go Go.RowKit
set_option linter.unusedSimpArgs false

/-- From place o on, block g holds the frame f; pre lies before it, post behind it. -/
structure FrameP (w : World) (g o : Nat) (pre post : List Value) (f : Fra) : Prop where
  blk : Blk w g 79 (pre ++ fcells f ++ post).toArray
  ho : pre.length = o
theorem FrameP.at_ {w : World} {g o : Nat} {pre post : List Value} {f : Fra} (h : FrameP w g o pre post f) (j : Nat) (hj : j < 18) : w.cell? ⟨g, o + j, none⟩ = (fcells f)[j]? := by
  rw [h.blk.at_, ← h.ho]
  simp only [List.getElem?_toArray]
  rw [List.append_assoc, List.getElem?_append_right (by omega), Nat.add_sub_cancel_left, List.getElem?_append_left (by simpa using hj)]
theorem FrameP.free {w : World} {g o : Nat} {pre post : List Value} {f : Fra} (h : FrameP w g o pre post f) (j : Nat) : w.frozen? ⟨g, j, none⟩ = false := h.blk.free j
theorem FrameP.put {w : World} {g o : Nat} {pre post : List Value} {f : Fra} (h : FrameP w g o pre post f) (j : Nat) (hj : j < 18) (u : Value) (f' : Fra) (hf : fcells f' = (fcells f).set j u) : FrameP (w.setCell ⟨g, o + j, none⟩ u) g o pre post f' := by
  refine ⟨?_, h.ho⟩
  have hb := h.blk.put (o + j) u
  have e : ((pre ++ fcells f ++ post).toArray).setIfInBounds (o + j) u = (pre ++ fcells f' ++ post).toArray := by
    rw [List.setIfInBounds_toArray, hf]
    congr 1
    rw [← h.ho, List.append_assoc, List.set_append_right _ _ (by omega), Nat.add_sub_cancel_left, List.set_append_left _ _ (by simpa using hj), List.append_assoc]
  rw [e] at hb
  exact hb
theorem FrameP.of_same {w w' : World} {g o : Nat} {pre post : List Value} {f : Fra} (h : FrameP w g o pre post f) (e : w'.heap[g]? = w.heap[g]?) : FrameP w' g o pre post f := ⟨h.blk.of_same e, h.ho⟩
theorem FrameP.fr {S : List Nat} {w w' : World} {g o : Nat} {pre post : List Value} {f : Fra} (h : FrameP w g o pre post f) (hf : Fr S w w') (hg : g ∉ S) : FrameP w' g o pre post f := h.of_same (hf.block g h.blk.lt hg)
theorem FrameP.below {w w' : World} {g o : Nat} {pre post : List Value} {f : Fra} (h : FrameP w g o pre post f) (hb : Below w.heap.size w w') : FrameP w' g o pre post f := h.of_same (hb.block g h.blk.lt)
theorem FrameP.alloc {w : World} {g o : Nat} {pre post : List Value} {f : Fra} (h : FrameP w g o pre post f) (ob : Obj) : FrameP (w.alloc ob) g o pre post f := h.of_same (Below.heap_alloc w ob g h.blk.lt)
theorem FrameP.ne {w : World} {g o p : Nat} {pre post : List Value} {f : Fra} {a : EnvA} {s : St} (h : FrameP w g o pre post f) (he : EnvM w p a s) : g ≠ p ∧ g ≠ a.g := by
  obtain ⟨cur, hb, _⟩ := he.row.blk
  exact ⟨h.blk.apart he.blk (by decide), h.blk.apart hb (by decide)⟩

/-- What a line of a frame gives: its result, the environment's state, the frame. -/
def Leaf (p g o : Nat) (pre post : List Value) (a : EnvA) (r : Res) (s' : St) (f' : Fra) (w : World) (e : Ending) (w' : World) : Prop :=
  e = .returned (.agg (rcells' r)) ∧ EnvM w' p a s' ∧ FrameP w' g o pre post f' ∧ Fr [p, a.g, g] w w'
end Go.Proofs.YtheimjcgpbmecaaGreat

namespace Go.Proofs.YtheimjcgpbmecaaGreat
open Go Go.RowKit
set_option linter.unusedSimpArgs false

theorem end_any (c v : Int) (w : World) : Calls Tryz.prog 102 #[.int .i64 c, .int .i64 v] w fun e w' => e = .returned (.agg (rcells' ⟨true, c, v⟩)) ∧ Below w.heap.size w w' := by
  have hB := below_one w (.cells (rcells' .none) 184)
  have hR := Blk.made w 184 (rcells' .none)
  have HB := Lib.hid hB
  have HR := Lib.hid hR
  have r0 := hR.at_ 0
  have r1 := hR.at_ 1
  have r2 := hR.at_ 2
  have f0 := hR.free 0
  have f1 := hR.free 1
  have f2 := hR.free 2
  clear hB hR
  go_enter Tryz.func102, Tryz.ntmps102
  go_upto_region 1 with fail
  generalize w.alloc (.cells (rcells' .none) 184) = W at *
  go_wp2
  have hP := ((HR.out.put 0 (.bool true)).put 1 (.int .i64 c)).put 2 (.int .i64 v)
  simp only [List.setIfInBounds_toArray, List.set_cons_zero, List.set_cons_succ] at hP
  refine bodyPost_ret (results_cell_row (P := Tryz.prog) Tryz.results102 _ _ w.heap.size 184 _ (0, 0) _ rfl hP Tryz.underlying184 rfl (by kernel_rfl)) rfl ?_
  exact ⟨rfl, ((HB.out.setCell (by simp) _).setCell (by simp) _).setCell (by simp) _⟩
end Go.Proofs.YtheimjcgpbmecaaGreat

namespace Go.Proofs.YtheimjcgpbmecaaGreat
open Go Go.RowKit

/-- The cells of triples. -/
def cellsT : List T3 → List Value
  | [] => []
  | e :: r => .int .i64 e.1 :: .int .i64 e.2.1 :: .int .i64 e.2.2 :: cellsT r
theorem cellsT_length : ∀ l : List T3, (cellsT l).length = l.length * 3
  | [] => rfl
  | e :: r => by
    simp only [cellsT, List.length_cons, cellsT_length r]
    omega
theorem cellsT_append : ∀ a b : List T3, cellsT (a ++ b) = cellsT a ++ cellsT b
  | [], _ => rfl
  | e :: r, b => by simp [cellsT, cellsT_append r b]
theorem cellsT_at : ∀ (l : List T3) (i : Nat), i < l.length → (cellsT l)[i * 3]? = some (.int .i64 (l.getD i z3).1) ∧ (cellsT l)[i * 3 + 1]? = some (.int .i64 (l.getD i z3).2.1) ∧ (cellsT l)[i * 3 + 2]? = some (.int .i64 (l.getD i z3).2.2)
  | [], _, h => absurd h (by simp)
  | e :: r, 0, _ => ⟨rfl, rfl, rfl⟩
  | e :: r, i + 1, h => by
    have := cellsT_at r i (by simpa using h)
    rw [show (i + 1) * 3 = i * 3 + 1 + 1 + 1 by omega]
    simpa [cellsT] using this
theorem cellsT_one (l : List T3) : ∀ u ∈ cellsT l, u.oneCell' = true := by
  induction l with
  | nil => intro u hu; cases hu
  | cons e r ih =>
    intro u hu
    simp only [cellsT, List.mem_cons] at hu
    rcases hu with rfl | rfl | rfl | hu
    · rfl
    · rfl
    · rfl
    · exact ih u hu

theorem info_instr : (Tryz.prog.info? 66).map (fun i => (i.zero, i.size, i.bytes)) = some (some (.agg #[.int .i64 0, .int .i64 0, .int .i64 0]), 3, 24) := by kernel_rfl
theorem info_sub : (Tryz.prog.info? 123).map (fun i => (i.zero, i.size, i.bytes)) = some (some (.agg #[.int .i64 0, .int .i64 0, .int .i64 0]), 3, 24) := by kernel_rfl
theorem info_code : (Tryz.prog.info? 64).map (fun i => (i.zero, i.size, i.bytes)) = some (some (.slice none 0 0), 1, 24) := by kernel_rfl

/-- The slice v is the call's own (nil, or a row from block base on, of element type t) and holds the triples l. -/
def OwnT (w : World) (base : Nat) (t : TypeId) (v : Value) (l : List T3) : Prop := w.ownsRow base t 3 v l.length (cellsT l)
theorem OwnT.nil (w : World) (base : Nat) (t : TypeId) : OwnT w base t (.slice none 0 0) [] := World.ownsRow_nil w base _ _
theorem OwnT.lt {w : World} {base : Nat} {t : TypeId} {v : Value} {l : List T3} (h : OwnT w base t v l) : ∀ k, v.ownBlock = some k → base ≤ k ∧ k < w.heap.size := World.ownsRow.lt h
theorem OwnT.mono {w : World} {base base' : Nat} {t : TypeId} {v : Value} {l : List T3} (h : OwnT w base t v l) (hb : base' ≤ base) : OwnT w base' t v l := by
  refine ⟨h.1, ?_⟩
  rcases h.2 with h2 | ⟨g, cap, cur, rfl, h2, rest⟩
  · exact .inl h2
  · exact .inr ⟨g, cap, cur, rfl, Nat.le_trans hb h2, rest⟩
theorem OwnT.fr {w w' : World} {base : Nat} {t : TypeId} {v : Value} {l : List T3} {S : List Nat} (h : OwnT w base t v l) (hb : Fr S w w') (hS : ∀ s, s ∈ S → s < base) : OwnT w' base t v l := by
  refine ⟨h.1, ?_⟩
  rcases h.2 with h2 | ⟨g, cap, cur, rfl, h2, hg, rest⟩
  · exact .inl h2
  · exact .inr ⟨g, cap, cur, rfl, h2, (hb.block g (Array.getElem?_eq_some_iff.1 hg).1 (fun hm => by have := hS g hm; omega)).trans hg, rest⟩
theorem OwnT.below {w w' : World} {base : Nat} {t : TypeId} {v : Value} {l : List T3} (h : OwnT w base t v l) (hb : Below w.heap.size w w') : OwnT w' base t v l := h.fr (S := []) (Fr.old hb) (fun s hs => by cases hs)
theorem OwnT.alloc {w : World} {base : Nat} {t : TypeId} {v : Value} {l : List T3} (h : OwnT w base t v l) (o : Obj) : OwnT (w.alloc o) base t v l := h.below (below_one w o)
theorem OwnT.form {w : World} {base : Nat} {t : TypeId} {v : Value} {l : List T3} (h : OwnT w base t v l) : ∃ a c, v = .slice a l.length c ∧ Tris w base a l.length l ∧ l.length ≤ c := by
  rcases h.2 with ⟨rfl, h2⟩ | ⟨g, cap, cur, rfl, h2, hg, hn, hc, _, _⟩
  · have : l = [] := List.eq_nil_of_length_eq_zero h2
    subst this
    exact ⟨none, 0, rfl, tris_nil _ _ _, Nat.le_refl _⟩
  · refine ⟨_, cap, rfl, ⟨rfl, Nat.le_trans hn hc, fun i hi => ⟨_, rfl, h2, (Array.getElem?_eq_some_iff.1 hg).1, ?_, ?_, ?_⟩⟩, hn⟩
    · exact World.ownsRow.cells h rfl _ _ (cellsT_at l i hi).1
    · exact World.ownsRow.cells h rfl _ _ (cellsT_at l i hi).2.1
    · exact World.ownsRow.cells h rfl _ _ (cellsT_at l i hi).2.2
theorem OwnT.formN {w : World} {base : Nat} {t : TypeId} {v : Value} {l : List T3} {n : Nat} (h : OwnT w base t v l) (hn : l.length = n) : ∃ a c, v = .slice a n c ∧ Tris w base a n l ∧ n ≤ c := by
  subst hn
  exact h.form

/-- What is left as it was when a row of the call's own grows. -/
theorem fr_grown {S : List Nat} {w0 w w' : World} {row : Option Nat} (hb : Fr S w0 w) (hr : ∀ k, row = some k → w0.heap.size ≤ k) (hg : w.grownBy w' row) : Fr S w0 w' :=
  ⟨hg.os.trans hb.os, hg.tape.trans hb.tape, hg.output.trans hb.output, Nat.le_trans hb.size hg.size, fun k hk hn => (hg.block k (Nat.lt_of_lt_of_le hk hb.size) (fun e => by
    have := hr k e.symm
    omega)).trans (hb.block k hk hn)⟩
/-- The three cells of a triple. -/
def Three (w : World) (x : Addr) (e : T3) : Prop := w.cell? (x.add 0) = some (.int .i64 e.1) ∧ w.cell? (x.add 1) = some (.int .i64 e.2.1) ∧ w.cell? (x.add 2) = some (.int .i64 e.2.2)
theorem three_new (w : World) (t : TypeId) (o p q : Int) : Three (w.alloc (.cells #[.int .i64 o, .int .i64 p, .int .i64 q] t)) ⟨w.heap.size, 0, none⟩ (o, p, q) := by
  have hB := Blk.made w t #[.int .i64 o, .int .i64 p, .int .i64 q]
  exact ⟨hB.at_ 0, hB.at_ 1, hB.at_ 2⟩
theorem Three.cells {w : World} {x : Addr} {e : T3} (h : Three w x e) : ∀ j u, (cellsT [e])[j]? = some u → w.cell? (x.add j) = some u := by
  intro j u hu
  match j, hu with
  | 0, hu => exact h.1.trans hu
  | 1, hu => exact h.2.1.trans hu
  | 2, hu => exact h.2.2.trans hu
  | j + 3, hu => simp [cellsT] at hu

/-- An append of one triple at the operation, for the walk. -/
theorem wpList_appT {w : World} {ops : Array Oper} {rest : List Oper} {o : Oper} {a : Act} {Q : Exit → Act → World → Prop} {t tt : TypeId} (hu : Tryz.prog.underlying tt = some (.slice t))
    (hinfo : (Tryz.prog.info? t).map (fun i => (i.zero, i.size, i.bytes)) = some (some (.agg #[.int .i64 0, .int .i64 0, .int .i64 0]), 3, 24)) (hgd : o.guard = none) (s x : Operand)
    (ho : o.op = .call { callee := .builtin .append, args := #[s, x], argTypes := #[tt, tt] })
    {base : Nat} {v : Value} {l : List T3} (hs : a.eval s = v) (hown : OwnT w base t v l) {ad : Addr} {c : Nat} {e : T3} (hx : a.eval x = .slice (some ad) 1 c) (h3 : Three w ad e) (hn : l.length + 1 ≤ 1000000) (hb : base ≤ w.heap.size)
    (h : ∀ v' w', OwnT w' base t v' (l ++ [e]) → w.grownBy w' v.ownBlock → (v'.ownBlock = v.ownBlock ∨ v'.ownBlock = some w.heap.size) → wpList Tryz.prog ops Q rest (a.put o.dst v') w') :
    wpList Tryz.prog ops Q (o :: rest) a w := by
  obtain ⟨i0, hi, hz0, hz1, hz2⟩ := info_parts hinfo
  refine wpList_append_own_at w hgd s x tt ho base t i0 _ 3 24 hu hi hz0 hz1 hz2 rfl (by omega) v l.length (cellsT l) hs hown ad 1 c (cellsT [e]) hx rfl h3.cells (cellsT_one [e]) (by unfold maxLen; omega) (by omega) hb ?_
  intro v' w' h1 h2 _ h4
  refine h v' w' ?_ h2 h4
  unfold OwnT
  rw [cellsT_append, List.length_append]
  exact h1
/-- .. as one step of a region that draws its order. -/
theorem step_appT {w : World} {ops : Array Oper} {o : Oper} {a : Act} {K : Act → World → Prop} {Q : Exit → Act → World → Prop} {E : Prop} {t tt : TypeId} (hu : Tryz.prog.underlying tt = some (.slice t))
    (hinfo : (Tryz.prog.info? t).map (fun i => (i.zero, i.size, i.bytes)) = some (some (.agg #[.int .i64 0, .int .i64 0, .int .i64 0]), 3, 24)) (hgd : o.guard = none) (s x : Operand)
    (ho : o.op = .call { callee := .builtin .append, args := #[s, x], argTypes := #[tt, tt] })
    {base : Nat} {v : Value} {l : List T3} (hs : a.eval s = v) (hown : OwnT w base t v l) {ad : Addr} {c : Nat} {e : T3} (hx : a.eval x = .slice (some ad) 1 c) (h3 : Three w ad e) (hn : l.length + 1 ≤ 1000000) (hb : base ≤ w.heap.size)
    (h : ∀ v' w', OwnT w' base t v' (l ++ [e]) → w.grownBy w' v.ownBlock → K (a.put o.dst v') w') :
    if Region.wanted o (yielded ops a.tmps) = true then Oper.wp Tryz.prog o a w K Q else E := by
  obtain ⟨i0, hi, hz0, hz1, hz2⟩ := info_parts hinfo
  have hw : Region.wanted o (yielded ops a.tmps) = true := by simp [Region.wanted, hgd]
  rw [if_pos hw]
  refine wp_append_own w s x tt ho base t i0 _ 3 24 hu hi hz0 hz1 hz2 rfl (by omega) v l.length (cellsT l) hs hown ad 1 c (cellsT [e]) hx rfl h3.cells (cellsT_one [e]) (by unfold maxLen; omega) (by omega) hb ?_
  intro v' w' h1 h2 _
  refine h v' w' ?_ h2
  unfold OwnT
  rw [cellsT_append, List.length_append]
  exact h1

/-- The slice v is the call's own and holds the programs ps, each of them of the call's own. -/
def OwnP (w : World) (base : Nat) (v : Value) (ps : List (List T3)) : Prop :=
  ∃ vs : List Value, vs.length = ps.length ∧ w.ownsRow base 64 1 v ps.length vs ∧ ∀ i, i < ps.length → OwnT w base 66 (vs.getD i (.slice none 0 0)) (ps.getD i [])
theorem OwnP.nil (w : World) (base : Nat) : OwnP w base (.slice none 0 0) [] := ⟨[], rfl, World.ownsRow_nil w base _ _, fun i hi => by simp at hi⟩
theorem OwnP.lt {w : World} {base : Nat} {v : Value} {ps : List (List T3)} (h : OwnP w base v ps) : ∀ k, v.ownBlock = some k → base ≤ k ∧ k < w.heap.size := by
  obtain ⟨vs, _, h2, _⟩ := h
  exact World.ownsRow.lt h2
theorem OwnP.fr {w w' : World} {base : Nat} {v : Value} {ps : List (List T3)} {S : List Nat} (h : OwnP w base v ps) (hb : Fr S w w') (hS : ∀ s, s ∈ S → s < base) : OwnP w' base v ps := by
  obtain ⟨vs, h1, h2, h3⟩ := h
  refine ⟨vs, h1, ⟨h2.1, ?_⟩, fun i hi => (h3 i hi).fr hb hS⟩
  rcases h2.2 with h2 | ⟨g, cap, cur, rfl, h2, hg, rest⟩
  · exact .inl h2
  · exact .inr ⟨g, cap, cur, rfl, h2, (hb.block g (Array.getElem?_eq_some_iff.1 hg).1 (fun hm => by have := hS g hm; omega)).trans hg, rest⟩
theorem OwnP.below {w w' : World} {base : Nat} {v : Value} {ps : List (List T3)} (h : OwnP w base v ps) (hb : Below w.heap.size w w') : OwnP w' base v ps := h.fr (S := []) (Fr.old hb) (fun s hs => by cases hs)
theorem OwnP.alloc {w : World} {base : Nat} {v : Value} {ps : List (List T3)} (h : OwnP w base v ps) (o : Obj) : OwnP (w.alloc o) base v ps := h.below (below_one w o)
theorem OwnP.form {w : World} {base : Nat} {v : Value} {ps : List (List T3)} (h : OwnP w base v ps) : ∃ a c, v = .slice a ps.length c ∧ Prgs w base a ps.length ps ∧ ps.length ≤ c := by
  obtain ⟨vs, h1, h2, h3⟩ := h
  rcases h2.2 with ⟨rfl, h4⟩ | ⟨g, cap, cur, rfl, h4, hg, hn, hc, _, _⟩
  · have : ps = [] := List.eq_nil_of_length_eq_zero h4
    subst this
    exact ⟨none, 0, rfl, prgs_nil _ _ _, Nat.le_refl _⟩
  · refine ⟨_, cap, rfl, ⟨rfl, Nat.le_trans hn hc, fun i hi => ?_⟩, hn⟩
    obtain ⟨b, c, e, ht, _⟩ := (h3 i hi).form
    refine ⟨_, b, _, c, rfl, h4, (Array.getElem?_eq_some_iff.1 hg).1, ?_, ht⟩
    refine World.ownsRow.cells h2 rfl _ _ ?_
    have hi' : i < vs.length := by omega
    rw [← e, List.getD_eq_getElem?_getD, List.getElem?_eq_getElem hi']
    rfl
theorem OwnP.formN {w : World} {base : Nat} {v : Value} {ps : List (List T3)} {n : Nat} (h : OwnP w base v ps) (hn : ps.length = n) : ∃ a c, v = .slice a n c ∧ Prgs w base a n ps ∧ n ≤ c := by
  subst hn
  exact h.form
/-- Appending a program. -/
theorem ownP_app {w w' : World} {base : Nat} {v v' vp : Value} {ps : List (List T3)} {p : List T3} {vs : List Value} (h1 : vs.length = ps.length) (h2 : w.ownsRow base 64 1 v ps.length vs)
    (h3 : ∀ i, i < ps.length → OwnT w base 66 (vs.getD i (.slice none 0 0)) (ps.getD i [])) (hp : OwnT w base 66 vp p) (hg : w.grownBy w' v.ownBlock)
    (ho : w'.ownsRow base 64 1 v' (ps.length + 1) (vs ++ [vp])) : OwnP w' base v' (ps ++ [p]) := by
  have keep : ∀ vq q, OwnT w base 66 vq q → OwnT w' base 66 vq q := by
    intro vq q hq
    refine ⟨hq.1, ?_⟩
    rcases hq.2 with h4 | ⟨g, cap, cur, rfl, h4, hgg, rest⟩
    · exact .inl h4
    · refine .inr ⟨g, cap, cur, rfl, h4, (hg.block g (Array.getElem?_eq_some_iff.1 hgg).1 (fun e => ?_)).trans hgg, rest⟩
      rcases h2.2 with ⟨rfl, _⟩ | ⟨g2, cap2, cur2, rfl, _, hg2, _⟩
      · simp [Value.ownBlock] at e
      · simp [Value.ownBlock] at e
        subst e
        rw [hgg] at hg2
        cases hg2
  refine ⟨vs ++ [vp], by simp [h1], by simpa using ho, fun i hi => ?_⟩
  by_cases hin : i < ps.length
  · have e1 : (vs ++ [vp]).getD i (.slice none 0 0) = vs.getD i (.slice none 0 0) := by
      rw [List.getD_eq_getElem?_getD, List.getD_eq_getElem?_getD, List.getElem?_append_left (by omega)]
    have e2 : (ps ++ [p]).getD i [] = ps.getD i [] := by
      rw [List.getD_eq_getElem?_getD, List.getD_eq_getElem?_getD, List.getElem?_append_left (by omega)]
    rw [e1, e2]
    exact keep _ _ (h3 i hin)
  · have hie : i = ps.length := by
      simp at hi
      omega
    subst hie
    have e1 : (vs ++ [vp]).getD ps.length (.slice none 0 0) = vp := by
      rw [List.getD_eq_getElem?_getD, List.getElem?_append_right (by omega), h1, Nat.sub_self]
      rfl
    have e2 : (ps ++ [p]).getD ps.length [] = p := by
      rw [List.getD_eq_getElem?_getD, List.getElem?_append_right (by omega), Nat.sub_self]
      rfl
    rw [e1, e2]
    exact keep _ _ hp
theorem wpList_appP {w : World} {ops : Array Oper} {rest : List Oper} {o : Oper} {a : Act} {Q : Exit → Act → World → Prop} (hgd : o.guard = none) (s x : Operand)
    (ho : o.op = .call { callee := .builtin .append, args := #[s, x], argTypes := #[26, 26] })
    {base : Nat} {v : Value} {ps : List (List T3)} (hs : a.eval s = v) (hown : OwnP w base v ps) {ad : Addr} {c : Nat} {vp : Value} {p : List T3} (hx : a.eval x = .slice (some ad) 1 c) (hc : w.cell? (ad.add 0) = some vp) (hp : OwnT w base 66 vp p) (hn : ps.length + 1 ≤ 1000000) (hb : base ≤ w.heap.size)
    (h : ∀ v' w', OwnP w' base v' (ps ++ [p]) → w.grownBy w' v.ownBlock → (v'.ownBlock = v.ownBlock ∨ v'.ownBlock = some w.heap.size) → wpList Tryz.prog ops Q rest (a.put o.dst v') w') :
    wpList Tryz.prog ops Q (o :: rest) a w := by
  obtain ⟨i0, hi, hz0, hz1, hz2⟩ := info_parts info_code
  obtain ⟨vs, h1, h2, h3⟩ := hown
  obtain ⟨pa, pc, rfl, _⟩ := hp.form
  refine wpList_append_own_at w hgd s x 26 ho base 64 i0 _ 1 24 Tryz.underlying26 hi hz0 hz1 hz2 rfl (by omega) v ps.length vs hs h2 ad 1 c [.slice pa p.length pc] hx rfl ?_ ?_ (by unfold maxLen; omega) (by omega) hb ?_
  · intro j u hu
    match j, hu with
    | 0, hu => exact hc.trans hu
    | j + 1, hu => simp at hu
  · intro u hu
    simp at hu
    subst hu
    rfl
  · intro v' w' g1 g2 _ g4
    exact h v' w' (ownP_app h1 h2 h3 hp g2 g1) g2 g4
end Go.Proofs.YtheimjcgpbmecaaGreat
