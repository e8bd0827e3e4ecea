/-
  Package memory: has, access.
  Contract of memory.New.
  Package clock: New, Now, Copy.
  Package machine: the environment of the program, Bare.
  Frames of the reference's machines as plain data, results, sizes, cells of indices; the lines of push and pop. No function and no type is named.
  Small words on what a call leaves alone.
  Package memory: Load.
-/
import Derived.Test.YtjehiekmlbeaeaaGreatMgAA
import Derived.WalkSpells
import Derived.WalkLawsBesides
import Derived.Lib.Hide
import Derived.Shelf.Abstract
import Derived.Outline
import Derived.Maps.AppendAt
import Derived.OwnWalk
import Derived.Deep.RegionHeld3
import Derived.Deep.OwnRows
import Derived.IntWalk
import Derived.StillTailTactics
import Derived.Deep.Cut
import Derived.Deep.CutRange
import Derived.Deep.Slices
import Derived.Deep.QuietTactic
import Derived.BigQuiet
import Derived.BigRegion
import Derived.Deep.RegionLaw
namespace Go.Proofs.YtjehiekmlbeaeaaGreat
open Go Go.RowKit Go.Shelf

theorem has_yes {w : World} {p g cap : Nat} {s : St} (h : Mem w p g cap s) {j : Nat} (hj : j < s.X.length) :
    Calls Tryz.prog 61 #[.pointer (some ⟨p, 0, none⟩), .int .i64 j] w fun e w' => e = .returned (.bool true) ∧ w = w' := by
  have h0 : w.cell? ⟨p, 0, none⟩ = some (.slice (some ⟨g, 0, none⟩) s.X.length cap) := h.blk.at_ 0
  have hs := h.small
  go_enter Tryz.func61, Tryz.ntmps61
  go_wp2
  go_ret
  exact ⟨rfl, rfl⟩

theorem has_no {w : World} {p g cap : Nat} {s : St} (h : Mem w p g cap s) {i : Int} (hi : i < 0 ∨ (s.X.length : Int) ≤ i) :
    Calls Tryz.prog 61 #[.pointer (some ⟨p, 0, none⟩), .int .i64 i] w fun e w' => e = .returned (.bool false) ∧ w = w' := by
  have h0 : w.cell? ⟨p, 0, none⟩ = some (.slice (some ⟨g, 0, none⟩) s.X.length cap) := h.blk.at_ 0
  have hs := h.small
  by_cases h1 : i < 0
  · go_enter Tryz.func61, Tryz.ntmps61
    go_wp2
    go_ret
    exact ⟨rfl, rfl⟩
  · have h2 : (s.X.length : Int) ≤ i := by omega
    have h3 : decide (i < (s.X.length : Int)) = false := by simpa using h2
    go_enter Tryz.func61, Tryz.ntmps61
    go_wp2
    go_ret
    exact ⟨rfl, rfl⟩

set_option maxHeartbeats 1000000 in
theorem access_yes {w : World} {p g cap : Nat} {s : St} (h : Mem w p g cap s) {j : Nat} (hj : j < s.X.length) (k : Int) (fk : Nat) (fc : Array Value) (y : Int)
    (he : ∀ (args : Array Value) (w : World), (callFunc fk args).run Tryz.prog w = .ok (.enter fk args) w)
    (hf : Calls Tryz.prog fk (#[.int .u64 (s.X.getD j 0)] ++ fc) w fun e w' => e = .returned (.int .u64 y) ∧ w = w') :
    Calls Tryz.prog 58 #[.pointer (some ⟨p, 0, none⟩), .int .i64 k, .int .i64 j, .func (.func fk) #[] fc] w fun e w' => e = .returned (.tuple #[.int .u64 (s.X.getD j 0), .bool true]) ∧
      Mem w' p g cap (s.acc k j y) ∧ Fr [p, g] w w' := by
  have h0 : w.cell? ⟨p, 0, none⟩ = some (.slice (some ⟨g, 0, none⟩) s.X.length cap) := h.blk.at_ 0
  have h1 : w.cell? ⟨p, 1, none⟩ = some (.int .i64 s.c) := h.blk.at_ 1
  have h2 : w.cell? ⟨p, 2, none⟩ = some (.int .i64 s.k) := h.blk.at_ 2
  have h3 : w.cell? ⟨p, 3, none⟩ = some (.int .i64 s.i) := h.blk.at_ 3
  have h4 : w.cell? ⟨p, 4, none⟩ = some (.int .u64 s.o) := h.blk.at_ 4
  have h5 : w.cell? ⟨p, 5, none⟩ = some (.int .u64 s.v) := h.blk.at_ 5
  have hc : w.cell? ⟨g, j, none⟩ = some (.int .u64 (s.X.getD j 0)) := h.row.cell hj
  have f0 := h.blk.free 0
  have f1 := h.blk.free 1
  have f2 := h.blk.free 2
  have f3 := h.blk.free 3
  have f4 := h.blk.free 4
  have f5 := h.blk.free 5
  have fg := h.row.free j
  have hne := h.ne
  have hne' := hne.symm
  have hs := h.small
  generalize hx : s.X.getD j 0 = x at *
  have HX := Lib.hid hx
  clear hx
  go_enter Tryz.func58, Tryz.ntmps58
  go_wp2_with fail
  refine (has_yes h hj).mono ?_
  rintro e w' ⟨rfl, rfl⟩
  go_wp2_with fail
  refine hf.mono ?_
  rintro e w' ⟨rfl, rfl⟩
  clear he hf
  go_wp2
  go_ret2
  have e := HX.out
  subst e
  exact ⟨rfl, h.acc k y, ((((((Fr.refl _ _).setCell (by simp) _).setCell (by simp) _).setCell (by simp) _).setCell (by simp) _).setCell (by simp) _).setCell (by simp) _⟩

theorem access_no {w : World} {p g cap : Nat} {s : St} (h : Mem w p g cap s) {i : Int} (hi : i < 0 ∨ (s.X.length : Int) ≤ i) (k : Int) (f : Value) :
    Calls Tryz.prog 58 #[.pointer (some ⟨p, 0, none⟩), .int .i64 k, .int .i64 i, f] w fun e w' => e = .returned (.tuple #[.int .u64 0, .bool false]) ∧ w = w' := by
  go_enter Tryz.func58, Tryz.ntmps58
  go_wp2_with fail
  refine (has_no h hi).mono ?_
  rintro e w' ⟨rfl, rfl⟩
  go_wp2
  go_ret2
  exact ⟨rfl, rfl⟩

/-- access, whatever the cell. -/
theorem access_any {w : World} {p g cap : Nat} {s : St} (h : Mem w p g cap s) (k i : Int) (fk : Nat) (fc : Array Value) (F : Int → Int)
    (he : ∀ (args : Array Value) (w : World), (callFunc fk args).run Tryz.prog w = .ok (.enter fk args) w)
    (hf : ∀ x, Calls Tryz.prog fk (#[.int .u64 x] ++ fc) w fun e w' => e = .returned (.int .u64 (F x)) ∧ w = w') :
    Calls Tryz.prog 58 #[.pointer (some ⟨p, 0, none⟩), .int .i64 k, .int .i64 i, .func (.func fk) #[] fc] w fun e w' => e = .returned (.tuple #[.int .u64 (s.old i), .bool (decide (s.has i))]) ∧
      Mem w' p g cap (s.go k i F) ∧ Fr [p, g] w w' := by
  by_cases hi : s.has i
  · obtain ⟨j, rfl⟩ : ∃ j : Nat, i = (j : Int) := ⟨i.toNat, by have := hi.1; omega⟩
    have hj : j < s.X.length := by have := hi.2; omega
    refine (access_yes h hj k fk fc _ he (hf _)).mono ?_
    rintro e w' ⟨rfl, hm, hfr⟩
    simp only [St.old, St.go, if_pos hi, Int.toNat_natCast, decide_eq_true hi]
    exact ⟨trivial, hm, hfr⟩
  · refine (access_no h (St.has_no hi) k _).mono ?_
    rintro e w' ⟨rfl, rfl⟩
    simp only [St.old, St.go, if_neg hi, decide_eq_false hi]
    exact ⟨trivial, h, Fr.refl _ _⟩
end Go.Proofs.YtjehiekmlbeaeaaGreat

namespace Go.Proofs.YtjehiekmlbeaeaaGreat
open Go Go.RowKit Go.Shelf

theorem Row.alloc {w : World} {g n cap : Nat} {X : List Int} (h : Row w g n cap X) (o : Obj) : Row (w.alloc o) g n cap X := h.of_same (Below.heap_alloc w o g h.lt)

theorem new_mem (w : World) (n : Nat) (hn : n ≤ 131072) :
    Mem ((w.alloc (.cells (madeCells #[.int .u64 0] n) 50)).alloc (.cells #[.slice (some ⟨w.heap.size, 0, none⟩) n n, .int .i64 0, .int .i64 0, .int .i64 0, .int .u64 0, .int .u64 0] 133)) (w.heap.size + 1) w.heap.size n (St.new n) := by
  refine ⟨?_, ?_, by simpa [St.new] using hn⟩
  · have := Blk.made (w.alloc (.cells (madeCells #[.int .u64 0] n) 50)) 133 #[.slice (some ⟨w.heap.size, 0, none⟩) n n, .int .i64 0, .int .i64 0, .int .i64 0, .int .u64 0, .int .u64 0]
    simpa [St.new] using this
  · have := (made_row w n hn).alloc (.cells #[.slice (some ⟨w.heap.size, 0, none⟩) n n, .int .i64 0, .int .i64 0, .int .i64 0, .int .u64 0, .int .u64 0] 133)
    simpa [St.new] using this


theorem mnew_any (c : Int) (w : World) :
    Calls Tryz.prog 92 #[.int .i64 c] w fun e w' => e = .returned (.pointer (some ⟨w.heap.size + 1, 0, none⟩)) ∧ Mem w' (w.heap.size + 1) w.heap.size (sizeS c) (St.new (sizeS c)) ∧ Below w.heap.size w w' := by
  have hmk := fun (n : Nat) (hn : n ≤ 131072) (W : World) => run_make_row' (P := Tryz.prog) 49 50 (.int .u64 0) 8 Tryz.underlying49 info_u64 rfl .i64 .i64 n (by omega) (by omega) W
  have hb : ∀ o o' : Obj, Below w.heap.size w ((w.alloc o).alloc o') := fun o o' => ((Below.refl _ _).alloc (Nat.le_refl _) _).alloc (by simp) _
  have HM := Lib.hid (new_mem w)
  have HB := Lib.hid hb
  clear hb
  by_cases h1 : c < 0
  · have e : sizeS c = 0 := by unfold sizeS; rw [if_pos (by omega)]
    rw [e]
    clear e
    have hk := hmk 0 (by omega)
    rw [show ((0 : Nat) : Int) = 0 from rfl] at hk
    clear hmk
    go_enter Tryz.func92, Tryz.ntmps92
    go_wp2
    go_ret
    exact ⟨rfl, HM.out 0 (by omega), HB.out _ _⟩
  · by_cases h2 : c ≤ 131072
    · obtain ⟨n, rfl⟩ : ∃ n : Nat, c = (n : Int) := ⟨c.toNat, by omega⟩
      have e : sizeS n = n := by unfold sizeS; split <;> omega
      rw [e]
      clear e
      have hk := hmk n (by omega)
      clear hmk
      go_enter Tryz.func92, Tryz.ntmps92
      go_wp2
      go_ret
      exact ⟨rfl, HM.out n (by omega), HB.out _ _⟩
    · have e : sizeS c = 131072 := by unfold sizeS; split <;> omega
      rw [e]
      clear e
      have hk := hmk 131072 (by omega)
      rw [show ((131072 : Nat) : Int) = 131072 from rfl] at hk
      clear hmk
      go_enter Tryz.func92, Tryz.ntmps92
      go_wp2
      go_ret
      exact ⟨rfl, HM.out 131072 (by omega), HB.out _ _⟩

end Go.Proofs.YtjehiekmlbeaeaaGreat

namespace Go.Proofs.YtjehiekmlbeaeaaGreat
open Go Go.RowKit

/-- Block p is a clock with time t and draw d. -/
def Clk (w : World) (p : Nat) (t d : Int) : Prop := Blk w p 131 #[.int .i64 t, .int .i64 d]

theorem Clk.fr {S : List Nat} {w w' : World} {p : Nat} {t d : Int} (h : Clk w p t d) (f : Fr S w w') (hp : p ∉ S) : Clk w' p t d := Blk.of_same h (f.block p (Blk.lt h) hp)
theorem Clk.below {w w' : World} {p : Nat} {t d : Int} (h : Clk w p t d) (f : Below w.heap.size w w') : Clk w' p t d := h.fr (Fr.old (S := []) f) (by simp)

theorem cnew_any (w : World) :
    Calls Tryz.prog 93 #[] w fun e w' => e = .returned (.pointer (some ⟨w.heap.size, 0, none⟩)) ∧ Clk w' w.heap.size 0 0 ∧ Below w.heap.size w w' := by
  go_enter Tryz.func93, Tryz.ntmps93
  go_wp2
  go_ret
  exact ⟨rfl, Blk.made w _ _, (Below.refl _ _).alloc (Nat.le_refl _) _⟩

end Go.Proofs.YtjehiekmlbeaeaaGreat

namespace Go.Proofs.YtjehiekmlbeaeaaGreat
open Go Go.RowKit Go.Shelf

/-- Block p is an environment of the program: ahead of its pointers stand the cells hd of its configuration and its layout. -/
structure PE (w : World) (p m k g cap : Nat) (s : St) (t d : Int) (hd : List Value) (rv ev : Value) : Prop where
  blk : Blk w p 47 (hd ++ [.pointer (some ⟨m, 0, none⟩), .pointer (some ⟨k, 0, none⟩), rv, ev]).toArray
  len : hd.length = 20
  mem : Mem w m g cap s
  clk : Clk w k t d

section
variable {w w' : World} {p m k g cap : Nat} {s s' : St} {t d : Int} {hd : List Value} {rv ev : Value}
theorem PE.at20 (h : PE w p m k g cap s t d hd rv ev) : w.cell? ⟨p, 20, none⟩ = some (.pointer (some ⟨m, 0, none⟩)) := by
  rw [h.blk.at_, List.getElem?_toArray, List.getElem?_append_right (by rw [h.len]; decide), h.len]; rfl
theorem PE.at21 (h : PE w p m k g cap s t d hd rv ev) : w.cell? ⟨p, 21, none⟩ = some (.pointer (some ⟨k, 0, none⟩)) := by
  rw [h.blk.at_, List.getElem?_toArray, List.getElem?_append_right (by rw [h.len]; decide), h.len]; rfl
theorem PE.at22 (h : PE w p m k g cap s t d hd rv ev) : w.cell? ⟨p, 22, none⟩ = some rv := by
  rw [h.blk.at_, List.getElem?_toArray, List.getElem?_append_right (by rw [h.len]; decide), h.len]; rfl
theorem PE.at23 (h : PE w p m k g cap s t d hd rv ev) : w.cell? ⟨p, 23, none⟩ = some ev := by
  rw [h.blk.at_, List.getElem?_toArray, List.getElem?_append_right (by rw [h.len]; decide), h.len]; rfl
theorem PE.hpm (h : PE w p m k g cap s t d hd rv ev) : p ≠ m := h.blk.apart h.mem.blk (by decide)
theorem PE.hpk (h : PE w p m k g cap s t d hd rv ev) : p ≠ k := h.blk.apart h.clk (by decide)
theorem PE.hpg (h : PE w p m k g cap s t d hd rv ev) : p ≠ g := by
  obtain ⟨cur, hb, _⟩ := h.mem.row.blk
  exact h.blk.apart hb (by decide)
theorem PE.hkm (h : PE w p m k g cap s t d hd rv ev) : k ≠ m := Blk.apart h.clk h.mem.blk (by decide)
theorem PE.hkg (h : PE w p m k g cap s t d hd rv ev) : k ≠ g := by
  obtain ⟨cur, hb, _⟩ := h.mem.row.blk
  exact Blk.apart h.clk hb (by decide)
theorem PE.acc (h : PE w p m k g cap s t d hd rv ev) (hm : Mem w' m g cap s') (hf : Fr [m, g] w w') : PE w' p m k g cap s' t d hd rv ev :=
  ⟨h.blk.of_same (hf.block p h.blk.lt (by simp [h.hpm, h.hpg])), h.len, hm, h.clk.fr hf (by simp [h.hkm, h.hkg])⟩
theorem PE.fr {S : List Nat} (h : PE w p m k g cap s t d hd rv ev) (hf : Fr S w w') (h1 : p ∉ S) (h2 : m ∉ S) (h3 : k ∉ S) (h4 : g ∉ S) : PE w' p m k g cap s t d hd rv ev :=
  ⟨h.blk.of_same (hf.block p h.blk.lt h1), h.len, h.mem.fr hf h2 h4, h.clk.fr hf h3⟩
theorem PE.below (h : PE w p m k g cap s t d hd rv ev) (hb : Below w.heap.size w w') : PE w' p m k g cap s t d hd rv ev :=
  h.fr (Fr.old (S := []) hb) (by simp) (by simp) (by simp) (by simp)
theorem PE.alloc (h : PE w p m k g cap s t d hd rv ev) (o : Obj) : PE (w.alloc o) p m k g cap s t d hd rv ev := h.below ((Below.refl _ _).alloc (Nat.le_refl _) o)
theorem PE.drewN (h : PE w p m k g cap s t d hd rv ev) (n : Nat) : PE (w.drewN n) p m k g cap s t d hd rv ev := ⟨h.blk, h.len, h.mem.drewN n, h.clk⟩
end

/-- The cells ahead of the pointers, in an environment that Bare makes. -/
abbrev hd0 : List Value := [.int .i64 0, .int .i64 0, .int .i64 0, .int .i64 0, .int .i64 0, .int .i64 0, .int .i64 0, .int .i64 0, .int .i64 0, .slice none 0 0, .slice none 0 0, .int .i64 0, .int .i64 0, .int .i64 0, .int .i64 0, .int .i64 0, .int .i64 0, .int .i64 0, .int .i64 0, .int .i64 0]

/-- What Bare gives: a new environment with a memory of n cells. -/
def PBared (w : World) (n : Nat) (e : Ending) (w' : World) : Prop :=
  ∃ p m k g : Nat, e = .returned (.pointer (some ⟨p, 0, none⟩)) ∧ PE w' p m k g n (St.new n) 0 0 hd0 (.slice none 0 0) (.slice none 0 0) ∧ Below w.heap.size w w' ∧ w.heap.size ≤ p ∧ w.heap.size ≤ m ∧ w.heap.size ≤ k ∧ w.heap.size ≤ g

theorem pbare_any (c : Int) (w : World) : Calls Tryz.prog 49 #[.int .i64 c] w (PBared w (sizeS c)) := by
  go_enter Tryz.func49, Tryz.ntmps49
  go_wp2_with fail
  refine (mnew_any c w).mono ?_
  rintro e w1 ⟨rfl, hm, hb⟩
  go_wp2_with fail
  refine (cnew_any w1).mono ?_
  rintro e w2 ⟨rfl, hk, hb2⟩
  have hs := hb.size
  have hs2 := hb2.size
  have hm2 := hm.fr (Fr.old (S := []) hb2) (by simp) (by simp)
  have hb3 : Below w.heap.size w w2 := hb.trans (hb2.mono hs)
  generalize hW : w.heap.size = N at *
  have hg := hm2.row.lt
  have hmm := hm2.blk.lt
  clear hm hb hb2
  go_wp2
  go_ret
  refine ⟨w2.heap.size, N + 1, w1.heap.size, N, rfl, ⟨Blk.made w2 _ _, rfl, hm2.alloc _, hk.below ((Below.refl _ _).alloc (Nat.le_refl _) _)⟩, hW ▸ (hb3.alloc (by omega) _), by omega, by omega, by omega, by omega⟩
end Go.Proofs.YtjehiekmlbeaeaaGreat

namespace Go.Proofs.YtjehiekmlbeaeaaGreat
open Go Go.RowKit
set_option linter.unusedSimpArgs false

/-- A frame: its kind, its line, the deque, its numbers, its words, its list's slice. -/
structure Fra where
  kd : Int
  ln : Int
  qt : Int
  qb : Int
  qr : Int
  qc : Int
  fa : Int
  fb : Int
  fd : Int
  fi : Int
  fj : Int
  fn : Int
  ft : Int
  fu : Int
  fv : Int
  fw : Int
  fx : Int
  fl : Value
/-- A frame at line 1. -/
abbrev fra1 (kd t b r k a : Int) : Fra := ⟨kd, 1, t, b, r, k, a, 0, 0, 0, 0, 0, 0, 0, 0, 0, 0, .slice none 0 0⟩
/-- Its cells. -/
abbrev fcells (f : Fra) : List Value := [.int .i64 f.kd, .int .i64 f.ln, .int .i64 f.qt, .int .i64 f.qb, .int .i64 f.qr, .int .i64 f.qc, .int .i64 f.fa, .int .i64 f.fb, .int .i64 f.fd, .int .i64 f.fi, .int .i64 f.fj, .int .i64 f.fn, .int .i64 f.ft, .int .u64 f.fu, .int .u64 f.fv, .int .u64 f.fw, .int .u64 f.fx, f.fl]
/-- A result. -/
structure Res where
  dn : Bool
  cd : Int
  vl : Int
abbrev Res.none : Res := ⟨false, 0, 0⟩
abbrev rcells' (r : Res) : Array Value := #[.bool r.dn, .int .i64 r.cd, .int .i64 r.vl]
/-- The size of a deque, the cell of an index. -/
def sizeI (b t : Int) : Int := wrap64 (IntKind.u64.wrap (b - t))
/-- The value of a deque. -/
abbrev qv (t b r k : Int) : Value := .agg #[.int .i64 t, .int .i64 b, .int .i64 r, .int .i64 k]
def ringI (r k i : Int) : Int := if k < 1 then -1 else wrap64 (r + wrap64 (i % k))

/-- A line of push. -/
def pushS (s : St) (f : Fra) : St × Fra × Res :=
  if f.ln = 1 then (s.go 1 f.qb id, { f with fu := s.old f.qb, ln := 2 }, .none)
  else if f.ln = 2 then
    if f.qc ≤ sizeI f.fu (s.old f.qt) then (s.go 1 f.qt id, { f with fv := s.old f.qt }, ⟨true, 3, 0⟩)
    else (s.go 1 f.qt id, { f with fv := s.old f.qt, ln := 3 }, .none)
  else if f.ln = 3 then (s.go 2 (ringI f.qr f.qc f.fu) (fun _ => IntKind.u64.wrap f.fa), { f with ln := 4 }, .none)
  else (s.go 2 f.qb (fun _ => IntKind.u64.wrap (f.fu + 1)), f, ⟨true, 0, 0⟩)
theorem u64_nn (x : Int) : 0 ≤ IntKind.u64.wrap x := by rw [IntKind.wrap_u64]; exact Int.emod_nonneg _ (by decide)
abbrev sub1 (u : Int) : Int := IntKind.u64.wrap (u - 1)
abbrev add1 (u : Int) : Int := IntKind.u64.wrap (u + 1)
/-- The line behind line 4 of pop. -/
def pop4 (z : Int) : Int := if z = 0 then 6 else if z < 0 then 9 else 5
/-- A line of pop. -/
def popS (s : St) (f : Fra) : St × Fra × Res :=
  if f.ln = 1 then (s.go 1 f.qb id, { f with fu := s.old f.qb, ln := 2 }, .none)
  else if f.ln = 2 then
    if sizeI f.fu (s.old f.qt) ≤ 0 then (s.go 1 f.qt id, { f with fv := s.old f.qt }, ⟨true, 2, 0⟩)
    else (s.go 1 f.qt id, { f with fv := s.old f.qt, ln := 3 }, .none)
  else if f.ln = 3 then (s.go 2 f.qb (fun _ => sub1 f.fu), { f with ln := 4 }, .none)
  else if f.ln = 4 then (s.go 1 f.qt id, { f with fv := s.old f.qt, ln := pop4 (sizeI (sub1 f.fu) (s.old f.qt)) }, .none)
  else if f.ln = 5 ∨ f.ln = 8 then (s.go 1 (ringI f.qr f.qc (sub1 f.fu)) id, f, ⟨true, 1, IntKind.i64.wrap (s.old (ringI f.qr f.qc (sub1 f.fu)))⟩)
  else if f.ln = 6 then (s.go 3 f.qt (fun x => if x = f.fv then add1 f.fv else x), { f with ln := if s.hit f.qt f.fv then 7 else 9 }, .none)
  else if f.ln = 7 then (s.go 2 f.qb (fun _ => f.fu), { f with ln := 8 }, .none)
  else (s.go 2 f.qb (fun _ => f.fu), f, ⟨true, 2, 0⟩)
/-- A line of steal. -/
def stealS (s : St) (f : Fra) : St × Fra × Res :=
  if f.ln = 1 then (s.go 1 f.qt id, { f with fv := s.old f.qt, ln := 2 }, .none)
  else if f.ln = 2 then
    if sizeI (s.old f.qb) f.fv ≤ 0 then (s.go 1 f.qb id, { f with fu := s.old f.qb }, ⟨true, 2, 0⟩)
    else (s.go 1 f.qb id, { f with fu := s.old f.qb, ln := 3 }, .none)
  else if f.ln = 3 then (s.go 1 (ringI f.qr f.qc f.fv) id, { f with fw := s.old (ringI f.qr f.qc f.fv), ln := 4 }, .none)
  else (s.go 3 f.qt (fun x => if x = f.fv then add1 f.fv else x), f, if s.hit f.qt f.fv then ⟨true, 1, wrap64 f.fw⟩ else ⟨true, 4, 0⟩)
end Go.Proofs.YtjehiekmlbeaeaaGreat

namespace Go.Proofs.YtjehiekmlbeaeaaGreat
open Go Go.RowKit

theorem block_add (x : Addr) (i : Nat) : (x.add i).block = x.block := by unfold Addr.add; split <;> rfl
theorem below_one (w : World) (o : Obj) : Below w.heap.size w (w.alloc o) := (Below.refl _ _).alloc (Nat.le_refl _) o
theorem below_drew {w w' : World} {B : Nat} (h : Below B w w') : Below B w w'.drew := ⟨h.os, h.tape, h.output, h.size, h.block⟩
theorem below_drewN (w : World) (m : Nat) : Below w.heap.size w (w.drewN m) := ⟨rfl, rfl, rfl, Nat.le_refl _, fun _ _ => rfl⟩
theorem below_fr {w w' : World} (h : Below w.heap.size w w') : Fr [] w w' := Fr.old h
theorem fr_below {w w' : World} (h : Fr [] w w') : Below w.heap.size w w' := h.below (Nat.le_refl _) (fun k hk => by cases hk)
theorem bcell {W w1 : World} (hb : Below W.heap.size W w1) : (∀ b o, b < W.heap.size → w1.cell? ⟨b, o, none⟩ = W.cell? ⟨b, o, none⟩) ∧ (∀ b o, b < W.heap.size → w1.frozen? ⟨b, o, none⟩ = W.frozen? ⟨b, o, none⟩) :=
  ⟨fun b o h => hb.cell (p := ⟨b, o, none⟩) h, fun b o h => hb.frozen (p := ⟨b, o, none⟩) h⟩

theorem Blk.below {w w' : World} {g : Nat} {t : TypeId} {cs : Array Value} (h : Blk w g t cs) (hb : Below w.heap.size w w') : Blk w' g t cs := h.of_same (hb.block g h.lt)
theorem Blk.alloc {w : World} {g : Nat} {t : TypeId} {cs : Array Value} (h : Blk w g t cs) (o : Obj) : Blk (w.alloc o) g t cs := h.below (below_one w o)
theorem Blk.grown {w w' : World} {g : Nat} {t : TypeId} {cs : Array Value} {row : Option Nat} (h : Blk w g t cs) (hg : w.grownBy w' row) (hne : row ≠ some g) : Blk w' g t cs := h.of_same (hg.block g h.lt (fun e => hne e.symm))

/-- A cell behind the head of a struct, as the walk spells it. -/
theorem cell_field {w : World} {x : Addr} {i j : Nat} {u : Value} (h : w.cell? (x.add (i + (j + 1))) = some u) : w.cell? ⟨(x.add i).block, (x.add i).off + (j + 1), none⟩ = some u := by
  have e : x.add (i + (j + 1)) = ⟨(x.add i).block, (x.add i).off + (j + 1), none⟩ := by
    unfold Addr.add
    by_cases hi : i = 0
    · subst hi
      simp
    · rw [if_neg (by omega), if_neg (by omega)]
      simp [Nat.add_assoc]
  rw [← e]
  exact h
/-- A result in a cell and one in a slot. -/
theorem results_cell_tmp {P : Program} {fn : Func} {p q : Tmp} {ty : TypeId} (h : fn.results = #[.cell p ty, .tmp q]) (tmps : Array Value) (w : World) (g : Nat) (t : TypeId) (cs : Array Value) (fr : Nat × Nat) (d : TypeDesc) (v : Value)
    (hp : tmps.getD p undef = .pointer (some ⟨g, 0, none⟩)) (hq : tmps.getD q undef = v) (hg : w.heap[g]? = some (.cells cs t fr))
    (hu : P.underlying ty = some d) (hd : (match d with | .struct _ | .array _ _ => true | _ => false) = true) (hi : (P.info? ty).map (·.size) = some cs.size) :
    (results fn tmps).run P w = .ok (.tuple #[.agg cs, v]) w := by
  have hp' : tmps[p]?.getD undef = .pointer (some ⟨g, 0, none⟩) := by simpa using hp
  have hq' : tmps[q]?.getD undef = v := by simpa using hq
  simp [results, h, hp', hq', asAddr, run_loadVar_row w g t ty cs fr d hg hu hd hi]
theorem below_of_fr {w0 w w' : World} {S : List Nat} (h : Below w0.heap.size w0 w) (hf : Fr S w w') (hs : ∀ x ∈ S, w0.heap.size ≤ x) : Below w0.heap.size w0 w' :=
  h.trans (hf.below h.size hs)
end Go.Proofs.YtjehiekmlbeaeaaGreat

namespace Go.Proofs.YtjehiekmlbeaeaaGreat
open Go Go.RowKit Go.Shelf

theorem load_fn (x : Int) (w : World) : Calls Tryz.prog 247 #[.int .u64 x] w fun e w' => e = .returned (.int .u64 x) ∧ w = w' := by
  go_enter Tryz.func247, Tryz.ntmps247
  go_wp2
  go_ret
  exact ⟨rfl, rfl⟩

theorem load_any {w : World} {p g cap : Nat} {s : St} (h : Mem w p g cap s) (i : Int) :
    Calls Tryz.prog 242 #[.pointer (some ⟨p, 0, none⟩), .int .i64 i] w fun e w' => e = .returned (.int .u64 (s.old i)) ∧ Mem w' p g cap (s.go 1 i id) ∧ Fr [p, g] w w' := by
  have H := access_any h 1 i 247 #[] id (enters_of Tryz.func247 (by kernel_rfl) rfl) (fun x => load_fn x w)
  generalize s.old i = x at *
  generalize decide (s.has i) = b at *
  go_enter Tryz.func242, Tryz.ntmps242
  go_wp2_with fail
  refine H.mono ?_
  rintro e w' ⟨rfl, hm, hfr⟩
  go_wp2
  go_ret
  exact ⟨rfl, hm, hfr⟩
end Go.Proofs.YtjehiekmlbeaeaaGreat
