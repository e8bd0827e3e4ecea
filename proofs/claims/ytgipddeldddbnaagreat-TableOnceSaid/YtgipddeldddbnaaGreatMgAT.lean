/-
  Package memory: Load.
  Package parts: the cells that the machines on a deque share, and the methods that they embed.
-/
import Derived.Test.YtgipddeldddbnaaGreatMgAH
import Derived.Test.YtgipddeldddbnaaGreatMgAI
import Derived.Test.YtgipddeldddbnaaGreatMgAA
import Derived.Test.YtgipddeldddbnaaGreatMgAD
import Derived.Deep.QuietTactic
import Derived.BigQuiet
import Derived.Deep.RegionHeld3
import Derived.RegionTactic
namespace Go.Proofs.YtgipddeldddbnaaGreat
open Go Go.RowKit Go.Shelf

theorem load_fn (x : Int) (w : World) : Calls Tryz.prog 77 #[.int .u64 x] w fun e w' => e = .returned (.int .u64 x) ∧ w = w' := by
  go_enter Tryz.func77, Tryz.ntmps77
  go_wp2
  go_ret
  exact ⟨rfl, rfl⟩

theorem load_any {w : World} {p g cap : Nat} {s : St} (h : Mem w p g cap s) (i : Int) :
    Calls Tryz.prog 66 #[.pointer (some ⟨p, 0, none⟩), .int .i64 i] w fun e w' => e = .returned (.int .u64 (s.old i)) ∧ Mem w' p g cap (s.go 1 i id) ∧ Fr [p, g] w w' := by
  have H := access_any h 1 i 77 #[] id (enters_of Tryz.func77 (by kernel_rfl) rfl) (fun x => load_fn x w)
  generalize s.old i = x at *
  generalize decide (s.has i) = b at *
  go_enter Tryz.func66, Tryz.ntmps66
  go_wp2_with fail
  refine H.mono ?_
  rintro e w' ⟨rfl, hm, hfr⟩
  go_wp2
  go_ret
  exact ⟨rfl, hm, hfr⟩
end Go.Proofs.YtgipddeldddbnaaGreat

namespace Go.Proofs.YtgipddeldddbnaaGreat
open Go Go.RowKit Go.Shelf
set_option linter.unusedSimpArgs false

/-- The cells of what machines on a deque share. -/
abbrev ocells (f : Fra) (cd vl : Int) : List Value := [.int .i64 f.ln, .int .i64 cd, .int .i64 vl, .int .i64 f.qt, .int .i64 f.qb, .int .i64 f.qr, .int .i64 f.qc, .int .u64 f.fu, .int .u64 f.fv]
/-- Block q is a machine on a deque: what is shared, then post. -/
structure OB (w : World) (q : Nat) (ty : TypeId) (post : List Value) (f : Fra) (cd vl : Int) : Prop where
  blk : Blk w q ty (ocells f cd vl ++ post).toArray
  t1 : ty ≠ 40
  t2 : ty ≠ 107
  t3 : ty ≠ 109
  t4 : ty ≠ 103

section
variable {w w' : World} {q : Nat} {ty : TypeId} {post : List Value} {f f' : Fra} {cd vl : Int}
theorem OB.at_ (h : OB w q ty post f cd vl) (j : Nat) (hj : j < 9) : w.cell? ⟨q, j, none⟩ = (ocells f cd vl)[j]? := by
  rw [h.blk.at_, List.getElem?_toArray, List.getElem?_append_left (by simpa using hj)]
theorem OB.free (h : OB w q ty post f cd vl) (j : Nat) : w.frozen? ⟨q, j, none⟩ = false := h.blk.free j
theorem OB.put (h : OB w q ty post f cd vl) (j : Nat) (hj : j < 9) (u : Value) (f' : Fra) (cd' vl' : Int) (hf : ocells f' cd' vl' = (ocells f cd vl).set j u) : OB (w.setCell ⟨q, j, none⟩ u) q ty post f' cd' vl' := by
  refine ⟨?_, h.t1, h.t2, h.t3, h.t4⟩
  have hb := h.blk.put j u
  rw [List.setIfInBounds_toArray, List.set_append_left _ _ (by simpa using hj), ← hf] at hb
  exact hb
theorem OB.of_same (h : OB w q ty post f cd vl) (e : w'.heap[q]? = w.heap[q]?) : OB w' q ty post f cd vl := ⟨h.blk.of_same e, h.t1, h.t2, h.t3, h.t4⟩
theorem OB.fr {S : List Nat} (h : OB w q ty post f cd vl) (hf : Fr S w w') (hq : q ∉ S) : OB w' q ty post f cd vl := h.of_same (hf.block q h.blk.lt hq)
theorem OB.below (h : OB w q ty post f cd vl) (hb : Below w.heap.size w w') : OB w' q ty post f cd vl := h.of_same (hb.block q h.blk.lt)
theorem OB.drewN (h : OB w q ty post f cd vl) (n : Nat) : OB (w.drewN n) q ty post f cd vl := h.of_same rfl
theorem OB.drew (h : OB w q ty post f cd vl) : OB w.drew q ty post f cd vl := h.of_same rfl
end

section
variable {w w' : World} {p m k g cap : Nat} {s s' : St} {t d : Int} {hd : List Value} {rv ev : Value} {q : Nat} {ty : TypeId} {post : List Value} {f f' : Fra} {cd vl : Int}
theorem OB.ne (h : OB w q ty post f cd vl) (hp : PE w p m k g cap s t d hd rv ev) : q ≠ p ∧ q ≠ m ∧ q ≠ k ∧ q ≠ g := by
  obtain ⟨cur, hb, _⟩ := hp.mem.row.blk
  exact ⟨h.blk.apart hp.blk h.t1, h.blk.apart hp.mem.blk h.t2, h.blk.apart hp.clk h.t3, h.blk.apart hb h.t4⟩
theorem PE.own (hp : PE w p m k g cap s t d hd rv ev) (h : OB w q ty post f cd vl) (hf : Fr [q] w w') : PE w' p m k g cap s t d hd rv ev := by
  obtain ⟨n1, n2, n3, n4⟩ := h.ne hp
  exact hp.fr hf (by simpa using n1.symm) (by simpa using n2.symm) (by simpa using n3.symm) (by simpa using n4.symm)
theorem OB.acc (h : OB w q ty post f cd vl) (hp : PE w p m k g cap s t d hd rv ev) (hf : Fr [m, g] w w') : OB w' q ty post f cd vl := by
  obtain ⟨n1, n2, n3, n4⟩ := h.ne hp
  exact h.fr hf (by simp [n2, n4])

/-- The line that is next. -/
theorem oline_any (h : OB w q ty post f cd vl) :
    Calls Tryz.prog 60 #[.pointer (some ⟨q, 0, none⟩)] w fun e w' => e = .returned (.int .i64 f.ln) ∧ w = w' := by
  have c0 : w.cell? ⟨q, 0, none⟩ = some (.int .i64 f.ln) := h.at_ 0 (by omega)
  clear h
  go_enter Tryz.func60, Tryz.ntmps60
  go_wp2
  go_ret
  exact ⟨rfl, rfl⟩

/-- The next line. -/
theorem onext_any (h : OB w q ty post f cd vl) (l : Int) :
    Calls Tryz.prog 64 #[.pointer (some ⟨q, 0, none⟩), .int .i64 l] w fun e w' => e = .returned (.bool false) ∧ OB w' q ty post { f with ln := l } cd vl ∧ Fr [q] w w' := by
  have c6 : w.cell? ⟨q, 0, none⟩ = some (.int .i64 f.ln) := h.at_ 0 (by omega)
  have k6 := h.free 0
  have H := Lib.hid h
  clear h
  go_enter Tryz.func64, Tryz.ntmps64
  go_wp2
  go_ret
  exact ⟨rfl, H.out.put 0 (by omega) (.int .i64 l) { f with ln := l } cd vl rfl, (Fr.refl _ _).setCell (by simp) _⟩

/-- The end. -/
theorem oend_any (h : OB w q ty post f cd vl) (c v : Int) :
    Calls Tryz.prog 62 #[.pointer (some ⟨q, 0, none⟩), .int .i64 c, .int .i64 v] w fun e w' => e = .returned (.bool true) ∧ OB w' q ty post { f with ln := 0 } c v ∧ Fr [q] w w' := by
  have c6 : w.cell? ⟨q, 0, none⟩ = some (.int .i64 f.ln) := h.at_ 0 (by omega)
  have c7 : w.cell? ⟨q, 1, none⟩ = some (.int .i64 cd) := h.at_ 1 (by omega)
  have c8 : w.cell? ⟨q, 2, none⟩ = some (.int .i64 vl) := h.at_ 2 (by omega)
  have k6 := h.free 0
  have k7 := h.free 1
  have k8 := h.free 2
  have H := Lib.hid h
  clear h
  go_enter Tryz.func62, Tryz.ntmps62
  go_wp2
  go_ret
  exact ⟨rfl, ((H.out.put 0 (by omega) (.int .i64 0) { f with ln := 0 } cd vl rfl).put 1 (by omega) (.int .i64 c) { f with ln := 0 } c vl rfl).put 2 (by omega) (.int .i64 v) { f with ln := 0 } c v rfl,
    (((Fr.refl [q] _).setCell (by simp) _).setCell (by simp) _).setCell (by simp) _⟩

/-- The result. -/
theorem oresult_any (h : OB w q ty post f cd vl) :
    Calls Tryz.prog 58 #[.pointer (some ⟨q, 0, none⟩)] w fun e w' => e = .returned (.tuple #[.int .i64 cd, .int .i64 vl]) ∧ ∃ n, w' = w.drewN n := by
  have c7 : w.cell? ⟨q, 1, none⟩ = some (.int .i64 cd) := h.at_ 1 (by omega)
  have c8 : w.cell? ⟨q, 2, none⟩ = some (.int .i64 vl) := h.at_ 2 (by omega)
  clear h
  go_enter Tryz.func58, Tryz.ntmps58
  go_wp2_with fail
  go_quiet (fail)
  go_wp2
  go_ret2
  exact ⟨rfl, _, rfl⟩

/-- The size for contents b of Bottom. -/
theorem osize_any (h : OB w q ty post f cd vl) (b : Int) :
    Calls Tryz.prog 114 #[.pointer (some ⟨q, 0, none⟩), .int .u64 b] w fun e w' => e = .returned (.int .i64 (sizeI b f.fv)) ∧ w = w' := by
  have c5 : w.cell? ⟨q, 8, none⟩ = some (.int .u64 f.fv) := h.at_ 8 (by omega)
  clear h
  unfold sizeI
  go_enter Tryz.func114, Tryz.ntmps114
  go_wp2
  go_ret
  exact ⟨rfl, rfl⟩

/-- The cell of an index. -/
theorem ocell_any (h : OB w q ty post f cd vl) (i : Int) (hi : 0 ≤ i) (hk : f.qc ≤ 9223372036854775807) :
    Calls Tryz.prog 115 #[.pointer (some ⟨q, 0, none⟩), .int .u64 i] w fun e w' => e = .returned (.int .i64 (ringI f.qr f.qc i)) ∧ Below w.heap.size w w' := by
  have c2 : w.cell? ⟨q, 5, none⟩ = some (.int .i64 f.qr) := h.at_ 5 (by omega)
  have c3 : w.cell? ⟨q, 6, none⟩ = some (.int .i64 f.qc) := h.at_ 6 (by omega)
  clear h
  unfold ringI
  generalize f.qr = r at *
  generalize f.qc = k at *
  by_cases h1 : k < 1
  · rw [if_pos h1]
    go_enter Tryz.func115, Tryz.ntmps115
    go_wp2
    go_ret
    exact ⟨rfl, Below.refl _ _⟩
  · rw [if_neg h1]
    have hk1 : 1 ≤ k := by omega
    have s0 : IntKind.u64.wrap k = k := IntWalk.u64_in _ (by omega)
    go_enter Tryz.func115, Tryz.ntmps115
    go_wp2_with fail
    go_quiet (fail)
    go_wp2
    go_ret
    exact ⟨rfl, below_drewN _ _⟩

/-- What a load into a field gives. -/
def OLoaded (w : World) (p m k g cap : Nat) (s' : St) (t d : Int) (hd : List Value) (rv ev : Value) (q : Nat) (ty : TypeId) (post : List Value) (f' : Fra) (cd vl : Int) (e : Ending) (w' : World) : Prop :=
  e = .returned (.tuple #[]) ∧ PE w' p m k g cap s' t d hd rv ev ∧ OB w' q ty post f' cd vl ∧ Fr [m, g, q] w w'

set_option maxRecDepth 100000 in
set_option maxHeartbeats 2000000 in
/-- Bottom is loaded. -/
theorem oloadBottom_any (hp : PE w p m k g cap s t d hd rv ev) (h : OB w q ty post f cd vl) :
    Calls Tryz.prog 112 #[.pointer (some ⟨q, 0, none⟩), .pointer (some ⟨p, 0, none⟩)] w (OLoaded w p m k g cap (s.go 1 f.qb id) t d hd rv ev q ty post { f with fu := s.old f.qb } cd vl) := by
  obtain ⟨n1, n2, n3, n4⟩ := h.ne hp
  have HN := Lib.hid (And.intro n1 (And.intro n2 n4))
  have hqp := n1.symm
  have P0 := Lib.hid (hp.drewN 1)
  have B0 := Lib.hid h.drew
  have HF0 := Lib.hid ((Fr.refl [m, g, q] w).drew)
  have d20 : w.drew.cell? ⟨p, 20, none⟩ = some (.pointer (some ⟨m, 0, none⟩)) := hp.at20
  have d1 : w.drew.cell? ⟨q, 4, none⟩ = some (.int .i64 f.qb) := B0.out.at_ 4 (by omega)
  clear hp h n2 n3 n4
  go_enter Tryz.func112, Tryz.ntmps112
  go_wp2_with fail
  go_region_held3 (fun w' => w'.cell? ⟨p, 20, none⟩ = some (.pointer (some ⟨m, 0, none⟩)) ∧ w'.cell? ⟨q, 4, none⟩ = some (.int .i64 f.qb)) ((first | exact ⟨x20, x1⟩ | exact ⟨a20, a1⟩ | exact ⟨d20, d1⟩ | go_keep))
    ((go_at_call 66
      refine (load_any P0.out.mem _).mono ?_
      rintro e w1 ⟨rfl, hm, hf⟩
      have P1 := Lib.hid (P0.out.acc hm hf)
      have B1 := Lib.hid (B0.out.acc P0.out hf)
      have HF1 := Lib.hid (HF0.out.trans (hf.mono (by simp)))
      have a20 : w1.cell? ⟨p, 20, none⟩ = some (.pointer (some ⟨m, 0, none⟩)) := P1.out.at20
      have a1 : w1.cell? ⟨q, 4, none⟩ = some (.int .i64 f.qb) := B1.out.at_ 4 (by omega)
      have a4 : w1.cell? ⟨q, 7, none⟩ = some (.int .u64 f.fu) := B1.out.at_ 7 (by omega)
      have f4 := B1.out.free 7
      have x20 : (w1.setCell ⟨q, 7, none⟩ (.int .u64 (s.old f.qb))).cell? ⟨p, 20, none⟩ = some (.pointer (some ⟨m, 0, none⟩)) := by rw [World.cell?_setCell_other _ _ _ _ (by simp [hqp])]; exact a20
      have x1 : (w1.setCell ⟨q, 7, none⟩ (.int .u64 (s.old f.qb))).cell? ⟨q, 4, none⟩ = some (.int .i64 f.qb) := by rw [World.cell?_setCell_other _ _ _ _ (by simp)]; exact a1
      clear hm hf))
  go_end0
  have hs : Fr [q] w1 (w1.setCell ⟨q, 7, none⟩ (.int .u64 (s.old f.qb))) := (Fr.refl _ _).setCell (by simp) _
  exact ⟨rfl, P1.out.own B1.out hs, B1.out.put 7 (by omega) (.int .u64 (s.old f.qb)) { f with fu := s.old f.qb } cd vl rfl, HF1.out.trans (hs.mono (by simp))⟩

set_option maxRecDepth 100000 in
set_option maxHeartbeats 2000000 in
/-- Top is loaded. -/
theorem oloadTop_any (hp : PE w p m k g cap s t d hd rv ev) (h : OB w q ty post f cd vl) :
    Calls Tryz.prog 113 #[.pointer (some ⟨q, 0, none⟩), .pointer (some ⟨p, 0, none⟩)] w (OLoaded w p m k g cap (s.go 1 f.qt id) t d hd rv ev q ty post { f with fv := s.old f.qt } cd vl) := by
  obtain ⟨n1, n2, n3, n4⟩ := h.ne hp
  have HN := Lib.hid (And.intro n1 (And.intro n2 n4))
  have hqp := n1.symm
  have P0 := Lib.hid (hp.drewN 1)
  have B0 := Lib.hid h.drew
  have HF0 := Lib.hid ((Fr.refl [m, g, q] w).drew)
  have d20 : w.drew.cell? ⟨p, 20, none⟩ = some (.pointer (some ⟨m, 0, none⟩)) := hp.at20
  have d1 : w.drew.cell? ⟨q, 3, none⟩ = some (.int .i64 f.qt) := B0.out.at_ 3 (by omega)
  clear hp h n2 n3 n4
  go_enter Tryz.func113, Tryz.ntmps113
  go_wp2_with fail
  go_region_held3 (fun w' => w'.cell? ⟨p, 20, none⟩ = some (.pointer (some ⟨m, 0, none⟩)) ∧ w'.cell? ⟨q, 3, none⟩ = some (.int .i64 f.qt)) ((first | exact ⟨x20, x1⟩ | exact ⟨a20, a1⟩ | exact ⟨d20, d1⟩ | go_keep))
    ((go_at_call 66
      refine (load_any P0.out.mem _).mono ?_
      rintro e w1 ⟨rfl, hm, hf⟩
      have P1 := Lib.hid (P0.out.acc hm hf)
      have B1 := Lib.hid (B0.out.acc P0.out hf)
      have HF1 := Lib.hid (HF0.out.trans (hf.mono (by simp)))
      have a20 : w1.cell? ⟨p, 20, none⟩ = some (.pointer (some ⟨m, 0, none⟩)) := P1.out.at20
      have a1 : w1.cell? ⟨q, 3, none⟩ = some (.int .i64 f.qt) := B1.out.at_ 3 (by omega)
      have a4 : w1.cell? ⟨q, 8, none⟩ = some (.int .u64 f.fv) := B1.out.at_ 8 (by omega)
      have f4 := B1.out.free 8
      have x20 : (w1.setCell ⟨q, 8, none⟩ (.int .u64 (s.old f.qt))).cell? ⟨p, 20, none⟩ = some (.pointer (some ⟨m, 0, none⟩)) := by rw [World.cell?_setCell_other _ _ _ _ (by simp [hqp])]; exact a20
      have x1 : (w1.setCell ⟨q, 8, none⟩ (.int .u64 (s.old f.qt))).cell? ⟨q, 3, none⟩ = some (.int .i64 f.qt) := by rw [World.cell?_setCell_other _ _ _ _ (by simp)]; exact a1
      clear hm hf))
  go_end0
  have hs : Fr [q] w1 (w1.setCell ⟨q, 8, none⟩ (.int .u64 (s.old f.qt))) := (Fr.refl _ _).setCell (by simp) _
  exact ⟨rfl, P1.out.own B1.out hs, B1.out.put 8 (by omega) (.int .u64 (s.old f.qt)) { f with fv := s.old f.qt } cd vl rfl, HF1.out.trans (hs.mono (by simp))⟩
end
end Go.Proofs.YtgipddeldddbnaaGreat
