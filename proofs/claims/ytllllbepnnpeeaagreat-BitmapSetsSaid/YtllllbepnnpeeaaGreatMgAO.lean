/-
  The accesses through the reference's environment: load, store, cas, or, and, add.
  Frames of the reference's machines as plain data, results, sizes, cells of indices; the lines of push and pop. No function and no type is named.
  The reference's Size and Ring.
  Frames of the reference's machines in memory. No function is named.
  The reference's end; what lines of frames share.
  The reference's environment whole, beside its accesses and frames.
-/
import Derived.Test.YtllllbepnnpeeaaGreatEnvB
import Derived.Test.YtllllbepnnpeeaaGreatMgAB
import Derived.Test.YtllllbepnnpeeaaGreatMgAA
import Derived.Lib.Hide
import Derived.Deep.QuietTactic
import Derived.BigQuiet
import Derived.Deep.CutRange
import Derived.Test.YtllllbepnnpeeaaGreatMgAE
import Derived.Test.YtllllbepnnpeeaaGreatMgAH
namespace Go.Proofs.YtllllbepnnpeeaaGreat
open Go Go.RowKit
set_option linter.unusedSimpArgs false

theorem eload_any {w : World} {p : Nat} {a : EnvA} {s : St} (h : EnvM w p a s) (i : Int)  :
    Calls Tryz.prog 98 #[.pointer (some ⟨p, 0, none⟩), .int .i64 i] w fun e w' => e = .returned (.int .u64 (s.old i)) ∧ EnvM w' p a (s.go 1 i id) ∧ Fr [p, a.g] w w' := by
  by_cases hi : s.has i
  · obtain ⟨j, rfl⟩ : ∃ j : Nat, i = (j : Int) := ⟨i.toNat, by have := hi.1; omega⟩
    have HA := Lib.hid (eacc_load h (j := j) (by have := hi.2; omega) 0 0)
    simp only [St.old, St.go, if_pos hi, Int.toNat_natCast]
    go_enter Tryz.func98, Tryz.ntmps98
    go_wp2_with fail
    (with_reducible refine HA.out.mono ?_)
    rintro e w1 ⟨rfl, hm, hf⟩
    have HM := Lib.hid hm
    have HF := Lib.hid hf
    clear hm hf
    go_wp2
    go_ret
    exact ⟨rfl, HM.out, HF.out⟩
  · have HA := Lib.hid (eacc_no h (St.has_no hi) 1 0 0)
    simp only [St.old, St.go, if_neg hi]
    have HM := Lib.hid h
    clear h
    go_enter Tryz.func98, Tryz.ntmps98
    go_wp2_with fail
    (with_reducible refine HA.out.mono ?_)
    rintro e w1 ⟨rfl, rfl⟩
    go_wp2
    go_ret
    exact ⟨rfl, HM.out, Fr.refl _ _⟩
theorem estore_any {w : World} {p : Nat} {a : EnvA} {s : St} (h : EnvM w p a s) (i : Int) (v : Int) :
    Calls Tryz.prog 101 #[.pointer (some ⟨p, 0, none⟩), .int .i64 i, .int .u64 v] w fun e w' => e = .returned (.tuple #[]) ∧ EnvM w' p a (s.go 2 i (fun _ => v)) ∧ Fr [p, a.g] w w' := by
  by_cases hi : s.has i
  · obtain ⟨j, rfl⟩ : ∃ j : Nat, i = (j : Int) := ⟨i.toNat, by have := hi.1; omega⟩
    have HA := Lib.hid (eacc_store h (j := j) (by have := hi.2; omega) v 0)
    simp only [St.old, St.go, if_pos hi, Int.toNat_natCast]
    go_enter Tryz.func101, Tryz.ntmps101
    go_wp2_with fail
    (with_reducible refine HA.out.mono ?_)
    rintro e w1 ⟨rfl, hm, hf⟩
    have HM := Lib.hid hm
    have HF := Lib.hid hf
    clear hm hf
    go_wp2
    go_end0
    exact ⟨rfl, HM.out, HF.out⟩
  · have HA := Lib.hid (eacc_no h (St.has_no hi) 2 v 0)
    simp only [St.old, St.go, if_neg hi]
    have HM := Lib.hid h
    clear h
    go_enter Tryz.func101, Tryz.ntmps101
    go_wp2_with fail
    (with_reducible refine HA.out.mono ?_)
    rintro e w1 ⟨rfl, rfl⟩
    go_wp2
    go_end0
    exact ⟨rfl, HM.out, Fr.refl _ _⟩
theorem eor_any {w : World} {p : Nat} {a : EnvA} {s : St} (h : EnvM w p a s) (i : Int) (v : Int) :
    Calls Tryz.prog 94 #[.pointer (some ⟨p, 0, none⟩), .int .i64 i, .int .u64 v] w fun e w' => e = .returned (.int .u64 (s.old i)) ∧ EnvM w' p a (s.go 4 i (fun x => bits .or .u64 x v)) ∧ Fr [p, a.g] w w' := by
  by_cases hi : s.has i
  · obtain ⟨j, rfl⟩ : ∃ j : Nat, i = (j : Int) := ⟨i.toNat, by have := hi.1; omega⟩
    have HA := Lib.hid (eacc_or h (j := j) (by have := hi.2; omega) v 0)
    simp only [St.old, St.go, if_pos hi, Int.toNat_natCast]
    go_enter Tryz.func94, Tryz.ntmps94
    go_wp2_with fail
    (with_reducible refine HA.out.mono ?_)
    rintro e w1 ⟨rfl, hm, hf⟩
    have HM := Lib.hid hm
    have HF := Lib.hid hf
    clear hm hf
    go_wp2
    go_ret
    exact ⟨rfl, HM.out, HF.out⟩
  · have HA := Lib.hid (eacc_no h (St.has_no hi) 4 v 0)
    simp only [St.old, St.go, if_neg hi]
    have HM := Lib.hid h
    clear h
    go_enter Tryz.func94, Tryz.ntmps94
    go_wp2_with fail
    (with_reducible refine HA.out.mono ?_)
    rintro e w1 ⟨rfl, rfl⟩
    go_wp2
    go_ret
    exact ⟨rfl, HM.out, Fr.refl _ _⟩
theorem eand_any {w : World} {p : Nat} {a : EnvA} {s : St} (h : EnvM w p a s) (i : Int) (v : Int) :
    Calls Tryz.prog 128 #[.pointer (some ⟨p, 0, none⟩), .int .i64 i, .int .u64 v] w fun e w' => e = .returned (.int .u64 (s.old i)) ∧ EnvM w' p a (s.go 5 i (fun x => bits .and .u64 x v)) ∧ Fr [p, a.g] w w' := by
  by_cases hi : s.has i
  · obtain ⟨j, rfl⟩ : ∃ j : Nat, i = (j : Int) := ⟨i.toNat, by have := hi.1; omega⟩
    have HA := Lib.hid (eacc_and h (j := j) (by have := hi.2; omega) v 0)
    simp only [St.old, St.go, if_pos hi, Int.toNat_natCast]
    go_enter Tryz.func128, Tryz.ntmps128
    go_wp2_with fail
    (with_reducible refine HA.out.mono ?_)
    rintro e w1 ⟨rfl, hm, hf⟩
    have HM := Lib.hid hm
    have HF := Lib.hid hf
    clear hm hf
    go_wp2
    go_ret
    exact ⟨rfl, HM.out, HF.out⟩
  · have HA := Lib.hid (eacc_no h (St.has_no hi) 5 v 0)
    simp only [St.old, St.go, if_neg hi]
    have HM := Lib.hid h
    clear h
    go_enter Tryz.func128, Tryz.ntmps128
    go_wp2_with fail
    (with_reducible refine HA.out.mono ?_)
    rintro e w1 ⟨rfl, rfl⟩
    go_wp2
    go_ret
    exact ⟨rfl, HM.out, Fr.refl _ _⟩
theorem eadd_any {w : World} {p : Nat} {a : EnvA} {s : St} (h : EnvM w p a s) (i : Int) (v : Int) :
    Calls Tryz.prog 131 #[.pointer (some ⟨p, 0, none⟩), .int .i64 i, .int .u64 v] w fun e w' => e = .returned (.int .u64 (s.old i)) ∧ EnvM w' p a (s.go 6 i (fun x => IntKind.u64.wrap (x + v))) ∧ Fr [p, a.g] w w' := by
  by_cases hi : s.has i
  · obtain ⟨j, rfl⟩ : ∃ j : Nat, i = (j : Int) := ⟨i.toNat, by have := hi.1; omega⟩
    have HA := Lib.hid (eacc_add h (j := j) (by have := hi.2; omega) v 0)
    simp only [St.old, St.go, if_pos hi, Int.toNat_natCast]
    go_enter Tryz.func131, Tryz.ntmps131
    go_wp2_with fail
    (with_reducible refine HA.out.mono ?_)
    rintro e w1 ⟨rfl, hm, hf⟩
    have HM := Lib.hid hm
    have HF := Lib.hid hf
    clear hm hf
    go_wp2
    go_ret
    exact ⟨rfl, HM.out, HF.out⟩
  · have HA := Lib.hid (eacc_no h (St.has_no hi) 6 v 0)
    simp only [St.old, St.go, if_neg hi]
    have HM := Lib.hid h
    clear h
    go_enter Tryz.func131, Tryz.ntmps131
    go_wp2_with fail
    (with_reducible refine HA.out.mono ?_)
    rintro e w1 ⟨rfl, rfl⟩
    go_wp2
    go_ret
    exact ⟨rfl, HM.out, Fr.refl _ _⟩
theorem ecas_any {w : World} {p : Nat} {a : EnvA} {s : St} (h : EnvM w p a s) (i b d : Int) :
    Calls Tryz.prog 100 #[.pointer (some ⟨p, 0, none⟩), .int .i64 i, .int .u64 b, .int .u64 d] w fun e w' => e = .returned (.bool (s.hit i b)) ∧ EnvM w' p a (s.go 3 i fun x => if x = b then d else x) ∧ Fr [p, a.g] w w' := by
  unfold St.hit
  by_cases hi : s.has i
  · obtain ⟨j, rfl⟩ : ∃ j : Nat, i = (j : Int) := ⟨i.toNat, by have := hi.1; omega⟩
    have hj : j < s.X.length := by have := hi.2; omega
    simp only [St.old, St.go, if_pos hi, Int.toNat_natCast, decide_eq_true hi]
    by_cases hx : s.X.getD j 0 = b
    · have HA := Lib.hid (eacc_cas_yes h hj b d hx)
      rw [if_pos hx, hx]
      go_enter Tryz.func100, Tryz.ntmps100
      go_wp2_with fail
      (with_reducible refine HA.out.mono ?_)
      rintro e w1 ⟨rfl, hm, hf⟩
      have HM := Lib.hid hm
      have HF := Lib.hid hf
      clear hm hf hx
      go_wp2
      go_ret
      exact ⟨by simp, HM.out, HF.out⟩
    · have hb : (s.X.getD j 0 == b) = false := by simpa using hx
      have HA := Lib.hid (eacc_cas_no h hj b d hb)
      rw [if_neg hx, hb]
      go_enter Tryz.func100, Tryz.ntmps100
      go_wp2_with fail
      (with_reducible refine HA.out.mono ?_)
      rintro e w1 ⟨rfl, hm, hf⟩
      have HM := Lib.hid hm
      have HF := Lib.hid hf
      clear hm hf hx hb
      go_wp2
      go_ret
      exact ⟨rfl, HM.out, HF.out⟩
  · have HA := Lib.hid (eacc_no h (St.has_no hi) 3 b d)
    simp only [St.old, St.go, if_neg hi, decide_eq_false hi]
    have HM := Lib.hid h
    clear h
    go_enter Tryz.func100, Tryz.ntmps100
    go_wp2_with fail
    (with_reducible refine HA.out.mono ?_)
    rintro e w1 ⟨rfl, rfl⟩
    go_wp2
    go_ret
    exact ⟨rfl, HM.out, Fr.refl _ _⟩
end Go.Proofs.YtllllbepnnpeeaaGreat

namespace Go.Proofs.YtllllbepnnpeeaaGreat
open Go Go.RowKit
set_option linter.unusedSimpArgs false

/-- A frame: its kind, its line, the deque, its numbers, its words, its list's slice. -/
structure Fra where
  kd : Int
  ln : Int
  qt : Int
  qb : Int
  qr : Int
  qc : Int
  fa : Int
  fb : Int
  fd : Int
  fi : Int
  fj : Int
  fn : Int
  ft : Int
  fu : Int
  fv : Int
  fw : Int
  fx : Int
  fl : Value
/-- A frame at line 1. -/
abbrev fra1 (kd t b r k a : Int) : Fra := ⟨kd, 1, t, b, r, k, a, 0, 0, 0, 0, 0, 0, 0, 0, 0, 0, .slice none 0 0⟩
/-- Its cells. -/
abbrev fcells (f : Fra) : List Value := [.int .i64 f.kd, .int .i64 f.ln, .int .i64 f.qt, .int .i64 f.qb, .int .i64 f.qr, .int .i64 f.qc, .int .i64 f.fa, .int .i64 f.fb, .int .i64 f.fd, .int .i64 f.fi, .int .i64 f.fj, .int .i64 f.fn, .int .i64 f.ft, .int .u64 f.fu, .int .u64 f.fv, .int .u64 f.fw, .int .u64 f.fx, f.fl]
/-- A result. -/
structure Res where
  dn : Bool
  cd : Int
  vl : Int
abbrev Res.none : Res := ⟨false, 0, 0⟩
abbrev rcells' (r : Res) : Array Value := #[.bool r.dn, .int .i64 r.cd, .int .i64 r.vl]
/-- The size of a deque, the cell of an index. -/
def sizeI (b t : Int) : Int := wrap64 (IntKind.u64.wrap (b - t))
/-- The value of a deque. -/
abbrev qv (t b r k : Int) : Value := .agg #[.int .i64 t, .int .i64 b, .int .i64 r, .int .i64 k]
def ringI (r k i : Int) : Int := if k < 1 then -1 else wrap64 (r + wrap64 (i % k))

/-- A line of push. -/
def pushS (s : St) (f : Fra) : St × Fra × Res :=
  if f.ln = 1 then (s.go 1 f.qb id, { f with fu := s.old f.qb, ln := 2 }, .none)
  else if f.ln = 2 then
    if f.qc ≤ sizeI f.fu (s.old f.qt) then (s.go 1 f.qt id, { f with fv := s.old f.qt }, ⟨true, 3, 0⟩)
    else (s.go 1 f.qt id, { f with fv := s.old f.qt, ln := 3 }, .none)
  else if f.ln = 3 then (s.go 2 (ringI f.qr f.qc f.fu) (fun _ => IntKind.u64.wrap f.fa), { f with ln := 4 }, .none)
  else (s.go 2 f.qb (fun _ => IntKind.u64.wrap (f.fu + 1)), f, ⟨true, 0, 0⟩)
theorem u64_nn (x : Int) : 0 ≤ IntKind.u64.wrap x := by rw [IntKind.wrap_u64]; exact Int.emod_nonneg _ (by decide)
abbrev sub1 (u : Int) : Int := IntKind.u64.wrap (u - 1)
abbrev add1 (u : Int) : Int := IntKind.u64.wrap (u + 1)
/-- The line behind line 4 of pop. -/
def pop4 (z : Int) : Int := if z = 0 then 6 else if z < 0 then 9 else 5
/-- A line of pop. -/
def popS (s : St) (f : Fra) : St × Fra × Res :=
  if f.ln = 1 then (s.go 1 f.qb id, { f with fu := s.old f.qb, ln := 2 }, .none)
  else if f.ln = 2 then
    if sizeI f.fu (s.old f.qt) ≤ 0 then (s.go 1 f.qt id, { f with fv := s.old f.qt }, ⟨true, 2, 0⟩)
    else (s.go 1 f.qt id, { f with fv := s.old f.qt, ln := 3 }, .none)
  else if f.ln = 3 then (s.go 2 f.qb (fun _ => sub1 f.fu), { f with ln := 4 }, .none)
  else if f.ln = 4 then (s.go 1 f.qt id, { f with fv := s.old f.qt, ln := pop4 (sizeI (sub1 f.fu) (s.old f.qt)) }, .none)
  else if f.ln = 5 ∨ f.ln = 8 then (s.go 1 (ringI f.qr f.qc (sub1 f.fu)) id, f, ⟨true, 1, IntKind.i64.wrap (s.old (ringI f.qr f.qc (sub1 f.fu)))⟩)
  else if f.ln = 6 then (s.go 3 f.qt (fun x => if x = f.fv then add1 f.fv else x), { f with ln := if s.hit f.qt f.fv then 7 else 9 }, .none)
  else if f.ln = 7 then (s.go 2 f.qb (fun _ => f.fu), { f with ln := 8 }, .none)
  else (s.go 2 f.qb (fun _ => f.fu), f, ⟨true, 2, 0⟩)
/-- A line of steal. -/
def stealS (s : St) (f : Fra) : St × Fra × Res :=
  if f.ln = 1 then (s.go 1 f.qt id, { f with fv := s.old f.qt, ln := 2 }, .none)
  else if f.ln = 2 then
    if sizeI (s.old f.qb) f.fv ≤ 0 then (s.go 1 f.qb id, { f with fu := s.old f.qb }, ⟨true, 2, 0⟩)
    else (s.go 1 f.qb id, { f with fu := s.old f.qb, ln := 3 }, .none)
  else if f.ln = 3 then (s.go 1 (ringI f.qr f.qc f.fv) id, { f with fw := s.old (ringI f.qr f.qc f.fv), ln := 4 }, .none)
  else (s.go 3 f.qt (fun x => if x = f.fv then add1 f.fv else x), f, if s.hit f.qt f.fv then ⟨true, 1, wrap64 f.fw⟩ else ⟨true, 4, 0⟩)
end Go.Proofs.YtllllbepnnpeeaaGreat

namespace Go.Proofs.YtllllbepnnpeeaaGreat
open Go Go.RowKit
set_option linter.unusedSimpArgs false

theorem size_any (b t : Int) (w : World) : Calls Tryz.prog 125 #[.int .u64 b, .int .u64 t] w fun e w' => e = .returned (.int .i64 (sizeI b t)) ∧ w = w' := by
  go_enter Tryz.func125, Tryz.ntmps125
  go_wp2
  go_ret
  exact ⟨rfl, rfl⟩
theorem ring_any (t b r k i : Int) (hi : 0 ≤ i) (hk : k ≤ 9223372036854775807) (w : World) : Calls Tryz.prog 126 #[qv t b r k, .int .u64 i] w fun e w' => e = .returned (.int .i64 (ringI r k i)) ∧ Below w.heap.size w w' := by
  have HB := Lib.hid (below_one w (.cells #[.int .i64 t, .int .i64 b, .int .i64 r, .int .i64 k] 52))
  unfold ringI
  by_cases h1 : k < 1
  · rw [if_pos h1]
    go_enter Tryz.func126, Tryz.ntmps126
    go_wp2
    go_ret
    exact ⟨rfl, HB.out⟩
  · rw [if_neg h1]
    have hk1 : 1 ≤ k := by omega
    have s0 : IntKind.u64.wrap k = k := IntWalk.u64_in _ (by omega)
    go_enter Tryz.func126, Tryz.ntmps126
    go_wp2_with fail
    go_quiet (fail)
    go_wp2
    go_ret
    exact ⟨rfl, HB.out.trans ((below_drewN _ _).mono HB.out.size)⟩
end Go.Proofs.YtllllbepnnpeeaaGreat

namespace Go.Proofs.YtllllbepnnpeeaaGreat
open Go Go.RowKit
set_option linter.unusedSimpArgs false

/-- From place o on, block g holds the frame f; pre lies before it, post behind it. -/
structure FrameP (w : World) (g o : Nat) (pre post : List Value) (f : Fra) : Prop where
  blk : Blk w g 55 (pre ++ fcells f ++ post).toArray
  ho : pre.length = o
theorem FrameP.at_ {w : World} {g o : Nat} {pre post : List Value} {f : Fra} (h : FrameP w g o pre post f) (j : Nat) (hj : j < 18) : w.cell? ⟨g, o + j, none⟩ = (fcells f)[j]? := by
  rw [h.blk.at_, ← h.ho]
  simp only [List.getElem?_toArray]
  rw [List.append_assoc, List.getElem?_append_right (by omega), Nat.add_sub_cancel_left, List.getElem?_append_left (by simpa using hj)]
theorem FrameP.free {w : World} {g o : Nat} {pre post : List Value} {f : Fra} (h : FrameP w g o pre post f) (j : Nat) : w.frozen? ⟨g, j, none⟩ = false := h.blk.free j
theorem FrameP.put {w : World} {g o : Nat} {pre post : List Value} {f : Fra} (h : FrameP w g o pre post f) (j : Nat) (hj : j < 18) (u : Value) (f' : Fra) (hf : fcells f' = (fcells f).set j u) : FrameP (w.setCell ⟨g, o + j, none⟩ u) g o pre post f' := by
  refine ⟨?_, h.ho⟩
  have hb := h.blk.put (o + j) u
  have e : ((pre ++ fcells f ++ post).toArray).setIfInBounds (o + j) u = (pre ++ fcells f' ++ post).toArray := by
    rw [List.setIfInBounds_toArray, hf]
    congr 1
    rw [← h.ho, List.append_assoc, List.set_append_right _ _ (by omega), Nat.add_sub_cancel_left, List.set_append_left _ _ (by simpa using hj), List.append_assoc]
  rw [e] at hb
  exact hb
theorem FrameP.of_same {w w' : World} {g o : Nat} {pre post : List Value} {f : Fra} (h : FrameP w g o pre post f) (e : w'.heap[g]? = w.heap[g]?) : FrameP w' g o pre post f := ⟨h.blk.of_same e, h.ho⟩
theorem FrameP.fr {S : List Nat} {w w' : World} {g o : Nat} {pre post : List Value} {f : Fra} (h : FrameP w g o pre post f) (hf : Fr S w w') (hg : g ∉ S) : FrameP w' g o pre post f := h.of_same (hf.block g h.blk.lt hg)
theorem FrameP.below {w w' : World} {g o : Nat} {pre post : List Value} {f : Fra} (h : FrameP w g o pre post f) (hb : Below w.heap.size w w') : FrameP w' g o pre post f := h.of_same (hb.block g h.blk.lt)
theorem FrameP.alloc {w : World} {g o : Nat} {pre post : List Value} {f : Fra} (h : FrameP w g o pre post f) (ob : Obj) : FrameP (w.alloc ob) g o pre post f := h.of_same (Below.heap_alloc w ob g h.blk.lt)
theorem FrameP.ne {w : World} {g o p : Nat} {pre post : List Value} {f : Fra} {a : EnvA} {s : St} (h : FrameP w g o pre post f) (he : EnvM w p a s) : g ≠ p ∧ g ≠ a.g := by
  obtain ⟨cur, hb, _⟩ := he.row.blk
  exact ⟨h.blk.apart he.blk (by decide), h.blk.apart hb (by decide)⟩

/-- What a line of a frame gives: its result, the environment's state, the frame. -/
def Leaf (p g o : Nat) (pre post : List Value) (a : EnvA) (r : Res) (s' : St) (f' : Fra) (w : World) (e : Ending) (w' : World) : Prop :=
  e = .returned (.agg (rcells' r)) ∧ EnvM w' p a s' ∧ FrameP w' g o pre post f' ∧ Fr [p, a.g, g] w w'
end Go.Proofs.YtllllbepnnpeeaaGreat

namespace Go.Proofs.YtllllbepnnpeeaaGreat
open Go Go.RowKit
set_option linter.unusedSimpArgs false

theorem end_any (c v : Int) (w : World) : Calls Tryz.prog 96 #[.int .i64 c, .int .i64 v] w fun e w' => e = .returned (.agg (rcells' ⟨true, c, v⟩)) ∧ Below w.heap.size w w' := by
  have hB := below_one w (.cells (rcells' .none) 177)
  have hR := Blk.made w 177 (rcells' .none)
  have HB := Lib.hid hB
  have HR := Lib.hid hR
  have r0 := hR.at_ 0
  have r1 := hR.at_ 1
  have r2 := hR.at_ 2
  have f0 := hR.free 0
  have f1 := hR.free 1
  have f2 := hR.free 2
  clear hB hR
  go_enter Tryz.func96, Tryz.ntmps96
  go_upto_region 1 with fail
  generalize w.alloc (.cells (rcells' .none) 177) = W at *
  go_wp2
  have hP := ((HR.out.put 0 (.bool true)).put 1 (.int .i64 c)).put 2 (.int .i64 v)
  simp only [List.setIfInBounds_toArray, List.set_cons_zero, List.set_cons_succ] at hP
  refine bodyPost_ret (results_cell_row (P := Tryz.prog) Tryz.results96 _ _ w.heap.size 177 _ (0, 0) _ rfl hP Tryz.underlying177 rfl (by kernel_rfl)) rfl ?_
  exact ⟨rfl, ((HB.out.setCell (by simp) _).setCell (by simp) _).setCell (by simp) _⟩
end Go.Proofs.YtllllbepnnpeeaaGreat


