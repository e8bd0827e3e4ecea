/-
  The reference's environment: its cells. No function is named. (Written by wip/gen_env.py.)
  The accesses to the memory of the reference's environment, by Access. (Once written by wip/gen_env.py.)
  The accesses through the reference's environment: load, store, cas, or, and, add.
  Frames of the reference's machines as plain data, results, sizes, cells of indices; the lines of push and pop. No function and no type is named.
  Frames of the reference's machines in memory. No function is named.
  The reference's end; what lines of frames share.
-/
import Derived.Test.YtanbjdlaolgepaaGreatMgAA
import Derived.Test.YtanbjdlaolgepaaGreatMgAB
import Derived.Lib.Hide
import Derived.Deep.QuietTactic
import Derived.BigQuiet
import Derived.Deep.CutRange
namespace Go.Proofs.YtanbjdlaolgepaaGreat
open Go Go.RowKit
set_option linter.unusedSimpArgs false

/-- What an environment holds besides its memory's state: the configuration and where its lists lie, the memory's row, the records, the events. -/
structure EnvA where
  c : Cfg
  pa : Option Addr
  pn : Nat
  pc : Nat
  sa : Option Addr
  sn : Nat
  sc : Nat
  g : Nat
  cap : Nat
  now : Int
  draw : Int
  rv : Value
  ev : Value
/-- Its cells. -/
abbrev ecells (a : EnvA) (s : St) : Array Value :=
  #[.int .i64 a.c.wo, .int .i64 a.c.le, .int .i64 a.c.cl, .int .i64 a.c.ta, .int .i64 a.c.de, .int .i64 a.c.he, .int .i64 a.c.ba, .int .i64 a.c.ag, .int .i64 a.c.pa, .slice a.pa a.pn a.pc, .slice a.sa a.sn a.sc,
    .slice (some ⟨a.g, 0, none⟩) s.X.length a.cap, .int .i64 s.k, .int .i64 s.i, .int .u64 s.o, .int .u64 s.v, .int .i64 s.c, .int .i64 a.now, .int .i64 a.draw, a.rv, a.ev]
/-- Block p is an environment in state s. -/
structure EnvM (w : World) (p : Nat) (a : EnvA) (s : St) : Prop where
  blk : Blk w p 53 (ecells a s)
  row : Row w a.g s.X.length a.cap s.X
  small : s.X.length ≤ 131072
theorem EnvM.ne {w : World} {p : Nat} {a : EnvA} {s : St} (h : EnvM w p a s) : p ≠ a.g := by
  obtain ⟨cur, hb, _⟩ := h.row.blk
  exact h.blk.apart hb (by decide)
theorem EnvM.of_same {w w' : World} {p : Nat} {a : EnvA} {s : St} (h : EnvM w p a s) (e : w'.heap[p]? = w.heap[p]?) (e' : w'.heap[a.g]? = w.heap[a.g]?) : EnvM w' p a s := ⟨h.blk.of_same e, h.row.of_same e', h.small⟩
theorem EnvM.fr {S : List Nat} {w w' : World} {p : Nat} {a : EnvA} {s : St} (h : EnvM w p a s) (f : Fr S w w') (hp : p ∉ S) (hg : a.g ∉ S) : EnvM w' p a s := h.of_same (f.block p h.blk.lt hp) (f.block a.g h.row.lt hg)
theorem EnvM.below {w w' : World} {p : Nat} {a : EnvA} {s : St} (h : EnvM w p a s) (hb : Below w.heap.size w w') : EnvM w' p a s := h.of_same (hb.block p h.blk.lt) (hb.block a.g h.row.lt)
theorem EnvM.acc {w : World} {p : Nat} {a : EnvA} {s : St} (h : EnvM w p a s) (k : Int) {j : Nat} (y : Int) :
    EnvM ((((((w.setCell ⟨a.g, j, none⟩ (.int .u64 y)).setCell ⟨p, 12, none⟩ (.int .i64 k)).setCell ⟨p, 13, none⟩ (.int .i64 j)).setCell ⟨p, 14, none⟩ (.int .u64 (s.X.getD j 0))).setCell ⟨p, 15, none⟩ (.int .u64 y)).setCell ⟨p, 16, none⟩ (.int .i64 (wrap64 (s.c + 1)))) p a (s.acc k j y) := by
  have hne := h.ne
  have b := (((((h.blk.of_same (Below.heap_setCell w ⟨a.g, j, none⟩ (.int .u64 y) p hne)).put 12 (.int .i64 k)).put 13 (.int .i64 j)).put 14 (.int .u64 (s.X.getD j 0))).put 15 (.int .u64 y)).put 16 (.int .i64 (wrap64 (s.c + 1)))
  have r := h.row.put (i := j) y
  refine ⟨?_, ?_, by simpa [St.acc] using h.small⟩
  · simpa [St.acc, ecells] using b
  · have e : (s.acc k j y).X.length = s.X.length := by simp [St.acc]
    rw [e]
    refine r.of_same ?_
    rw [Below.heap_setCell _ _ _ _ (by simpa using hne.symm), Below.heap_setCell _ _ _ _ (by simpa using hne.symm), Below.heap_setCell _ _ _ _ (by simpa using hne.symm), Below.heap_setCell _ _ _ _ (by simpa using hne.symm), Below.heap_setCell _ _ _ _ (by simpa using hne.symm)]
end Go.Proofs.YtanbjdlaolgepaaGreat

namespace Go.Proofs.YtanbjdlaolgepaaGreat
open Go Go.RowKit
set_option linter.unusedSimpArgs false

theorem ein_yes {w : World} {p : Nat} {a : EnvA} {s : St} (h : EnvM w p a s) {j : Nat} (hj : j < s.X.length) :
    Calls Tryz.prog 32 #[.pointer (some ⟨p, 11, none⟩), .int .i64 j] w fun e w' => e = .returned (.bool true) ∧ w = w' := by
  have h0 : w.cell? ⟨p, 11, none⟩ = some (.slice (some ⟨a.g, 0, none⟩) s.X.length a.cap) := h.blk.at_ 11
  have hs := h.small
  go_enter Tryz.func32, Tryz.ntmps32
  go_wp2
  go_ret
  exact ⟨rfl, rfl⟩
theorem ein_no {w : World} {p : Nat} {a : EnvA} {s : St} (h : EnvM w p a s) {i : Int} (hi : i < 0 ∨ (s.X.length : Int) ≤ i) :
    Calls Tryz.prog 32 #[.pointer (some ⟨p, 11, none⟩), .int .i64 i] w fun e w' => e = .returned (.bool false) ∧ w = w' := by
  have h0 : w.cell? ⟨p, 11, none⟩ = some (.slice (some ⟨a.g, 0, none⟩) s.X.length a.cap) := h.blk.at_ 11
  have hs := h.small
  by_cases h1 : i < 0
  · go_enter Tryz.func32, Tryz.ntmps32
    go_wp2
    go_ret
    exact ⟨rfl, rfl⟩
  · have h2 : (s.X.length : Int) ≤ i := by omega
    have h3 : decide (i < (s.X.length : Int)) = false := by simpa using h2
    go_enter Tryz.func32, Tryz.ntmps32
    go_wp2
    go_ret
    exact ⟨rfl, rfl⟩
theorem eacc_no {w : World} {p : Nat} {a : EnvA} {s : St} (h : EnvM w p a s) {i : Int} (hi : i < 0 ∨ (s.X.length : Int) ≤ i) (q b d : Int) :
    Calls Tryz.prog 11 #[.pointer (some ⟨p, 11, none⟩), .int .i64 q, .int .i64 i, .int .u64 b, .int .u64 d] w fun e w' => e = .returned (.tuple #[.int .u64 0, .bool false]) ∧ w = w' := by
  go_enter Tryz.func11, Tryz.ntmps11
  go_wp2_with fail
  refine (ein_no h hi).mono ?_
  rintro e w' ⟨rfl, rfl⟩
  go_wp2
  go_ret2
  exact ⟨rfl, rfl⟩
theorem eacc_load {w : World} {p : Nat} {a : EnvA} {s : St} (h : EnvM w p a s) {j : Nat} (hj : j < s.X.length) (b d : Int)  :
    Calls Tryz.prog 11 #[.pointer (some ⟨p, 11, none⟩), .int .i64 1, .int .i64 j, .int .u64 b, .int .u64 d] w fun e w' => e = .returned (.tuple #[.int .u64 (s.X.getD j 0), .bool true]) ∧
      EnvM w' p a (s.acc 1 j (s.X.getD j 0)) ∧ Fr [p, a.g] w w' := by
  have h0 : w.cell? ⟨p, 11, none⟩ = some (.slice (some ⟨a.g, 0, none⟩) s.X.length a.cap) := h.blk.at_ 11
  have h1 : w.cell? ⟨p, 12, none⟩ = some (.int .i64 s.k) := h.blk.at_ 12
  have h2 : w.cell? ⟨p, 13, none⟩ = some (.int .i64 s.i) := h.blk.at_ 13
  have h3 : w.cell? ⟨p, 14, none⟩ = some (.int .u64 s.o) := h.blk.at_ 14
  have h4 : w.cell? ⟨p, 15, none⟩ = some (.int .u64 s.v) := h.blk.at_ 15
  have h5 : w.cell? ⟨p, 16, none⟩ = some (.int .i64 s.c) := h.blk.at_ 16
  have hc : w.cell? ⟨a.g, j, none⟩ = some (.int .u64 (s.X.getD j 0)) := h.row.cell hj
  have f1 := h.blk.free 12
  have f2 := h.blk.free 13
  have f3 := h.blk.free 14
  have f4 := h.blk.free 15
  have f5 := h.blk.free 16
  have fg := h.row.free j
  have hne := h.ne
  have hne' := hne.symm
  have hs := h.small
  have HA := Lib.hid (fun y => h.acc 1 (j := j) y)
  have HI := Lib.hid (ein_yes h hj)
  clear h
  generalize s.X.getD j 0 = x at *
  go_enter Tryz.func11, Tryz.ntmps11
  go_wp2_with fail
  refine HI.out.mono ?_
  rintro e w' ⟨rfl, rfl⟩
  go_wp2
  go_ret2
  exact ⟨rfl, HA.out _, ((((((Fr.refl _ _).setCell (by simp) _).setCell (by simp) _).setCell (by simp) _).setCell (by simp) _).setCell (by simp) _).setCell (by simp) _⟩
theorem eacc_store {w : World} {p : Nat} {a : EnvA} {s : St} (h : EnvM w p a s) {j : Nat} (hj : j < s.X.length) (b d : Int)  :
    Calls Tryz.prog 11 #[.pointer (some ⟨p, 11, none⟩), .int .i64 2, .int .i64 j, .int .u64 b, .int .u64 d] w fun e w' => e = .returned (.tuple #[.int .u64 (s.X.getD j 0), .bool true]) ∧
      EnvM w' p a (s.acc 2 j b) ∧ Fr [p, a.g] w w' := by
  have h0 : w.cell? ⟨p, 11, none⟩ = some (.slice (some ⟨a.g, 0, none⟩) s.X.length a.cap) := h.blk.at_ 11
  have h1 : w.cell? ⟨p, 12, none⟩ = some (.int .i64 s.k) := h.blk.at_ 12
  have h2 : w.cell? ⟨p, 13, none⟩ = some (.int .i64 s.i) := h.blk.at_ 13
  have h3 : w.cell? ⟨p, 14, none⟩ = some (.int .u64 s.o) := h.blk.at_ 14
  have h4 : w.cell? ⟨p, 15, none⟩ = some (.int .u64 s.v) := h.blk.at_ 15
  have h5 : w.cell? ⟨p, 16, none⟩ = some (.int .i64 s.c) := h.blk.at_ 16
  have hc : w.cell? ⟨a.g, j, none⟩ = some (.int .u64 (s.X.getD j 0)) := h.row.cell hj
  have f1 := h.blk.free 12
  have f2 := h.blk.free 13
  have f3 := h.blk.free 14
  have f4 := h.blk.free 15
  have f5 := h.blk.free 16
  have fg := h.row.free j
  have hne := h.ne
  have hne' := hne.symm
  have hs := h.small
  have HA := Lib.hid (fun y => h.acc 2 (j := j) y)
  have HI := Lib.hid (ein_yes h hj)
  clear h
  generalize s.X.getD j 0 = x at *
  go_enter Tryz.func11, Tryz.ntmps11
  go_wp2_with fail
  refine HI.out.mono ?_
  rintro e w' ⟨rfl, rfl⟩
  go_wp2
  go_ret2
  exact ⟨rfl, HA.out _, ((((((Fr.refl _ _).setCell (by simp) _).setCell (by simp) _).setCell (by simp) _).setCell (by simp) _).setCell (by simp) _).setCell (by simp) _⟩
theorem eacc_add {w : World} {p : Nat} {a : EnvA} {s : St} (h : EnvM w p a s) {j : Nat} (hj : j < s.X.length) (b d : Int)  :
    Calls Tryz.prog 11 #[.pointer (some ⟨p, 11, none⟩), .int .i64 6, .int .i64 j, .int .u64 b, .int .u64 d] w fun e w' => e = .returned (.tuple #[.int .u64 (s.X.getD j 0), .bool true]) ∧
      EnvM w' p a (s.acc 6 j (IntKind.u64.wrap (s.X.getD j 0 + b))) ∧ Fr [p, a.g] w w' := by
  have h0 : w.cell? ⟨p, 11, none⟩ = some (.slice (some ⟨a.g, 0, none⟩) s.X.length a.cap) := h.blk.at_ 11
  have h1 : w.cell? ⟨p, 12, none⟩ = some (.int .i64 s.k) := h.blk.at_ 12
  have h2 : w.cell? ⟨p, 13, none⟩ = some (.int .i64 s.i) := h.blk.at_ 13
  have h3 : w.cell? ⟨p, 14, none⟩ = some (.int .u64 s.o) := h.blk.at_ 14
  have h4 : w.cell? ⟨p, 15, none⟩ = some (.int .u64 s.v) := h.blk.at_ 15
  have h5 : w.cell? ⟨p, 16, none⟩ = some (.int .i64 s.c) := h.blk.at_ 16
  have hc : w.cell? ⟨a.g, j, none⟩ = some (.int .u64 (s.X.getD j 0)) := h.row.cell hj
  have f1 := h.blk.free 12
  have f2 := h.blk.free 13
  have f3 := h.blk.free 14
  have f4 := h.blk.free 15
  have f5 := h.blk.free 16
  have fg := h.row.free j
  have hne := h.ne
  have hne' := hne.symm
  have hs := h.small
  have HA := Lib.hid (fun y => h.acc 6 (j := j) y)
  have HI := Lib.hid (ein_yes h hj)
  clear h
  generalize s.X.getD j 0 = x at *
  go_enter Tryz.func11, Tryz.ntmps11
  go_wp2_with fail
  refine HI.out.mono ?_
  rintro e w' ⟨rfl, rfl⟩
  go_wp2
  go_ret2
  exact ⟨rfl, HA.out _, ((((((Fr.refl _ _).setCell (by simp) _).setCell (by simp) _).setCell (by simp) _).setCell (by simp) _).setCell (by simp) _).setCell (by simp) _⟩
end Go.Proofs.YtanbjdlaolgepaaGreat

namespace Go.Proofs.YtanbjdlaolgepaaGreat
open Go Go.RowKit
set_option linter.unusedSimpArgs false

theorem eload_any {w : World} {p : Nat} {a : EnvA} {s : St} (h : EnvM w p a s) (i : Int)  :
    Calls Tryz.prog 84 #[.pointer (some ⟨p, 0, none⟩), .int .i64 i] w fun e w' => e = .returned (.int .u64 (s.old i)) ∧ EnvM w' p a (s.go 1 i id) ∧ Fr [p, a.g] w w' := by
  by_cases hi : s.has i
  · obtain ⟨j, rfl⟩ : ∃ j : Nat, i = (j : Int) := ⟨i.toNat, by have := hi.1; omega⟩
    have HA := Lib.hid (eacc_load h (j := j) (by have := hi.2; omega) 0 0)
    simp only [St.old, St.go, if_pos hi, Int.toNat_natCast]
    go_enter Tryz.func84, Tryz.ntmps84
    go_wp2_with fail
    (with_reducible refine HA.out.mono ?_)
    rintro e w1 ⟨rfl, hm, hf⟩
    have HM := Lib.hid hm
    have HF := Lib.hid hf
    clear hm hf
    go_wp2
    go_ret
    exact ⟨rfl, HM.out, HF.out⟩
  · have HA := Lib.hid (eacc_no h (St.has_no hi) 1 0 0)
    simp only [St.old, St.go, if_neg hi]
    have HM := Lib.hid h
    clear h
    go_enter Tryz.func84, Tryz.ntmps84
    go_wp2_with fail
    (with_reducible refine HA.out.mono ?_)
    rintro e w1 ⟨rfl, rfl⟩
    go_wp2
    go_ret
    exact ⟨rfl, HM.out, Fr.refl _ _⟩
theorem estore_any {w : World} {p : Nat} {a : EnvA} {s : St} (h : EnvM w p a s) (i : Int) (v : Int) :
    Calls Tryz.prog 87 #[.pointer (some ⟨p, 0, none⟩), .int .i64 i, .int .u64 v] w fun e w' => e = .returned (.tuple #[]) ∧ EnvM w' p a (s.go 2 i (fun _ => v)) ∧ Fr [p, a.g] w w' := by
  by_cases hi : s.has i
  · obtain ⟨j, rfl⟩ : ∃ j : Nat, i = (j : Int) := ⟨i.toNat, by have := hi.1; omega⟩
    have HA := Lib.hid (eacc_store h (j := j) (by have := hi.2; omega) v 0)
    simp only [St.old, St.go, if_pos hi, Int.toNat_natCast]
    go_enter Tryz.func87, Tryz.ntmps87
    go_wp2_with fail
    (with_reducible refine HA.out.mono ?_)
    rintro e w1 ⟨rfl, hm, hf⟩
    have HM := Lib.hid hm
    have HF := Lib.hid hf
    clear hm hf
    go_wp2
    go_end0
    exact ⟨rfl, HM.out, HF.out⟩
  · have HA := Lib.hid (eacc_no h (St.has_no hi) 2 v 0)
    simp only [St.old, St.go, if_neg hi]
    have HM := Lib.hid h
    clear h
    go_enter Tryz.func87, Tryz.ntmps87
    go_wp2_with fail
    (with_reducible refine HA.out.mono ?_)
    rintro e w1 ⟨rfl, rfl⟩
    go_wp2
    go_end0
    exact ⟨rfl, HM.out, Fr.refl _ _⟩
theorem eadd_any {w : World} {p : Nat} {a : EnvA} {s : St} (h : EnvM w p a s) (i : Int) (v : Int) :
    Calls Tryz.prog 120 #[.pointer (some ⟨p, 0, none⟩), .int .i64 i, .int .u64 v] w fun e w' => e = .returned (.int .u64 (s.old i)) ∧ EnvM w' p a (s.go 6 i (fun x => IntKind.u64.wrap (x + v))) ∧ Fr [p, a.g] w w' := by
  by_cases hi : s.has i
  · obtain ⟨j, rfl⟩ : ∃ j : Nat, i = (j : Int) := ⟨i.toNat, by have := hi.1; omega⟩
    have HA := Lib.hid (eacc_add h (j := j) (by have := hi.2; omega) v 0)
    simp only [St.old, St.go, if_pos hi, Int.toNat_natCast]
    go_enter Tryz.func120, Tryz.ntmps120
    go_wp2_with fail
    (with_reducible refine HA.out.mono ?_)
    rintro e w1 ⟨rfl, hm, hf⟩
    have HM := Lib.hid hm
    have HF := Lib.hid hf
    clear hm hf
    go_wp2
    go_ret
    exact ⟨rfl, HM.out, HF.out⟩
  · have HA := Lib.hid (eacc_no h (St.has_no hi) 6 v 0)
    simp only [St.old, St.go, if_neg hi]
    have HM := Lib.hid h
    clear h
    go_enter Tryz.func120, Tryz.ntmps120
    go_wp2_with fail
    (with_reducible refine HA.out.mono ?_)
    rintro e w1 ⟨rfl, rfl⟩
    go_wp2
    go_ret
    exact ⟨rfl, HM.out, Fr.refl _ _⟩
end Go.Proofs.YtanbjdlaolgepaaGreat

namespace Go.Proofs.YtanbjdlaolgepaaGreat
open Go Go.RowKit
set_option linter.unusedSimpArgs false

/-- A frame: its kind, its line, the deque, its numbers, its words, its list's slice. -/
structure Fra where
  kd : Int
  ln : Int
  qt : Int
  qb : Int
  qr : Int
  qc : Int
  fa : Int
  fb : Int
  fd : Int
  fi : Int
  fj : Int
  fn : Int
  ft : Int
  fu : Int
  fv : Int
  fw : Int
  fx : Int
  fl : Value
/-- A frame at line 1. -/
abbrev fra1 (kd t b r k a : Int) : Fra := ⟨kd, 1, t, b, r, k, a, 0, 0, 0, 0, 0, 0, 0, 0, 0, 0, .slice none 0 0⟩
/-- Its cells. -/
abbrev fcells (f : Fra) : List Value := [.int .i64 f.kd, .int .i64 f.ln, .int .i64 f.qt, .int .i64 f.qb, .int .i64 f.qr, .int .i64 f.qc, .int .i64 f.fa, .int .i64 f.fb, .int .i64 f.fd, .int .i64 f.fi, .int .i64 f.fj, .int .i64 f.fn, .int .i64 f.ft, .int .u64 f.fu, .int .u64 f.fv, .int .u64 f.fw, .int .u64 f.fx, f.fl]
/-- A result. -/
structure Res where
  dn : Bool
  cd : Int
  vl : Int
abbrev Res.none : Res := ⟨false, 0, 0⟩
abbrev rcells' (r : Res) : Array Value := #[.bool r.dn, .int .i64 r.cd, .int .i64 r.vl]
end Go.Proofs.YtanbjdlaolgepaaGreat

namespace Go.Proofs.YtanbjdlaolgepaaGreat
open Go Go.RowKit
set_option linter.unusedSimpArgs false

/-- From place o on, block g holds the frame f; pre lies before it, post behind it. -/
structure FrameP (w : World) (g o : Nat) (pre post : List Value) (f : Fra) : Prop where
  blk : Blk w g 64 (pre ++ fcells f ++ post).toArray
  ho : pre.length = o
theorem FrameP.at_ {w : World} {g o : Nat} {pre post : List Value} {f : Fra} (h : FrameP w g o pre post f) (j : Nat) (hj : j < 18) : w.cell? ⟨g, o + j, none⟩ = (fcells f)[j]? := by
  rw [h.blk.at_, ← h.ho]
  simp only [List.getElem?_toArray]
  rw [List.append_assoc, List.getElem?_append_right (by omega), Nat.add_sub_cancel_left, List.getElem?_append_left (by simpa using hj)]
theorem FrameP.free {w : World} {g o : Nat} {pre post : List Value} {f : Fra} (h : FrameP w g o pre post f) (j : Nat) : w.frozen? ⟨g, j, none⟩ = false := h.blk.free j
theorem FrameP.put {w : World} {g o : Nat} {pre post : List Value} {f : Fra} (h : FrameP w g o pre post f) (j : Nat) (hj : j < 18) (u : Value) (f' : Fra) (hf : fcells f' = (fcells f).set j u) : FrameP (w.setCell ⟨g, o + j, none⟩ u) g o pre post f' := by
  refine ⟨?_, h.ho⟩
  have hb := h.blk.put (o + j) u
  have e : ((pre ++ fcells f ++ post).toArray).setIfInBounds (o + j) u = (pre ++ fcells f' ++ post).toArray := by
    rw [List.setIfInBounds_toArray, hf]
    congr 1
    rw [← h.ho, List.append_assoc, List.set_append_right _ _ (by omega), Nat.add_sub_cancel_left, List.set_append_left _ _ (by simpa using hj), List.append_assoc]
  rw [e] at hb
  exact hb
theorem FrameP.of_same {w w' : World} {g o : Nat} {pre post : List Value} {f : Fra} (h : FrameP w g o pre post f) (e : w'.heap[g]? = w.heap[g]?) : FrameP w' g o pre post f := ⟨h.blk.of_same e, h.ho⟩
theorem FrameP.fr {S : List Nat} {w w' : World} {g o : Nat} {pre post : List Value} {f : Fra} (h : FrameP w g o pre post f) (hf : Fr S w w') (hg : g ∉ S) : FrameP w' g o pre post f := h.of_same (hf.block g h.blk.lt hg)
theorem FrameP.below {w w' : World} {g o : Nat} {pre post : List Value} {f : Fra} (h : FrameP w g o pre post f) (hb : Below w.heap.size w w') : FrameP w' g o pre post f := h.of_same (hb.block g h.blk.lt)
theorem FrameP.ne {w : World} {g o p : Nat} {pre post : List Value} {f : Fra} {a : EnvA} {s : St} (h : FrameP w g o pre post f) (he : EnvM w p a s) : g ≠ p ∧ g ≠ a.g := by
  obtain ⟨cur, hb, _⟩ := he.row.blk
  exact ⟨h.blk.apart he.blk (by decide), h.blk.apart hb (by decide)⟩

end Go.Proofs.YtanbjdlaolgepaaGreat

namespace Go.Proofs.YtanbjdlaolgepaaGreat
open Go Go.RowKit
set_option linter.unusedSimpArgs false

theorem end_any (c v : Int) (w : World) : Calls Tryz.prog 82 #[.int .i64 c, .int .i64 v] w fun e w' => e = .returned (.agg (rcells' ⟨true, c, v⟩)) ∧ Below w.heap.size w w' := by
  have hB := below_one w (.cells (rcells' .none) 140)
  have hR := Blk.made w 140 (rcells' .none)
  have HB := Lib.hid hB
  have HR := Lib.hid hR
  have r0 := hR.at_ 0
  have r1 := hR.at_ 1
  have r2 := hR.at_ 2
  have f0 := hR.free 0
  have f1 := hR.free 1
  have f2 := hR.free 2
  clear hB hR
  go_enter Tryz.func82, Tryz.ntmps82
  go_upto_region 1 with fail
  generalize w.alloc (.cells (rcells' .none) 140) = W at *
  go_wp2
  have hP := ((HR.out.put 0 (.bool true)).put 1 (.int .i64 c)).put 2 (.int .i64 v)
  simp only [List.setIfInBounds_toArray, List.set_cons_zero, List.set_cons_succ] at hP
  refine bodyPost_ret (results_cell_row (P := Tryz.prog) Tryz.results82 _ _ w.heap.size 140 _ (0, 0) _ rfl hP Tryz.underlying140 rfl (by kernel_rfl)) rfl ?_
  exact ⟨rfl, ((HB.out.setCell (by simp) _).setCell (by simp) _).setCell (by simp) _⟩
end Go.Proofs.YtanbjdlaolgepaaGreat
