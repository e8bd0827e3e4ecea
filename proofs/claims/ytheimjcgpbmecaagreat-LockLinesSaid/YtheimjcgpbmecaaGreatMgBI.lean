/-
  Package memory: Load.
  Package parts: the cells that the machines on a deque share, and the methods that they embed.
  Package owner: the lines of Push. (Written by wip/gen_own.py.)
-/
import Derived.Test.YtheimjcgpbmecaaGreatMgAR
import Derived.Test.YtheimjcgpbmecaaGreatMgAS
import Derived.Test.YtheimjcgpbmecaaGreatMgAD
import Derived.Test.YtheimjcgpbmecaaGreatMgAA
import Derived.Deep.QuietTactic
import Derived.BigQuiet
import Derived.Deep.RegionHeld3
import Derived.RegionTactic
import Derived.Test.YtheimjcgpbmecaaGreatMgAV
namespace Go.Proofs.YtheimjcgpbmecaaGreat
open Go Go.RowKit Go.Shelf

theorem load_fn (x : Int) (w : World) : Calls Tryz.prog 218 #[.int .u64 x] w fun e w' => e = .returned (.int .u64 x) ∧ w = w' := by
  go_enter Tryz.func218, Tryz.ntmps218
  go_wp2
  go_ret
  exact ⟨rfl, rfl⟩

theorem load_any {w : World} {p g cap : Nat} {s : St} (h : Mem w p g cap s) (i : Int) :
    Calls Tryz.prog 212 #[.pointer (some ⟨p, 0, none⟩), .int .i64 i] w fun e w' => e = .returned (.int .u64 (s.old i)) ∧ Mem w' p g cap (s.go 1 i id) ∧ Fr [p, g] w w' := by
  have H := access_any h 1 i 218 #[] id (enters_of Tryz.func218 (by kernel_rfl) rfl) (fun x => load_fn x w)
  generalize s.old i = x at *
  generalize decide (s.has i) = b at *
  go_enter Tryz.func212, Tryz.ntmps212
  go_wp2_with fail
  refine H.mono ?_
  rintro e w' ⟨rfl, hm, hfr⟩
  go_wp2
  go_ret
  exact ⟨rfl, hm, hfr⟩
end Go.Proofs.YtheimjcgpbmecaaGreat

namespace Go.Proofs.YtheimjcgpbmecaaGreat
open Go Go.RowKit Go.Shelf
set_option linter.unusedSimpArgs false

/-- The cells of what machines on a deque share. -/
abbrev ocells (f : Fra) (cd vl : Int) : List Value := [.int .i64 f.ln, .int .i64 cd, .int .i64 vl, .int .i64 f.qt, .int .i64 f.qb, .int .i64 f.qr, .int .i64 f.qc, .int .u64 f.fu, .int .u64 f.fv]
/-- Block q is a machine on a deque: what is shared, then post. -/
structure OB (w : World) (q : Nat) (ty : TypeId) (post : List Value) (f : Fra) (cd vl : Int) : Prop where
  blk : Blk w q ty (ocells f cd vl ++ post).toArray
  t1 : ty ≠ 47
  t2 : ty ≠ 121
  t3 : ty ≠ 119
  t4 : ty ≠ 50

section
variable {w w' : World} {q : Nat} {ty : TypeId} {post : List Value} {f f' : Fra} {cd vl : Int}
theorem OB.at_ (h : OB w q ty post f cd vl) (j : Nat) (hj : j < 9) : w.cell? ⟨q, j, none⟩ = (ocells f cd vl)[j]? := by
  rw [h.blk.at_, List.getElem?_toArray, List.getElem?_append_left (by simpa using hj)]
theorem OB.free (h : OB w q ty post f cd vl) (j : Nat) : w.frozen? ⟨q, j, none⟩ = false := h.blk.free j
theorem OB.put (h : OB w q ty post f cd vl) (j : Nat) (hj : j < 9) (u : Value) (f' : Fra) (cd' vl' : Int) (hf : ocells f' cd' vl' = (ocells f cd vl).set j u) : OB (w.setCell ⟨q, j, none⟩ u) q ty post f' cd' vl' := by
  refine ⟨?_, h.t1, h.t2, h.t3, h.t4⟩
  have hb := h.blk.put j u
  rw [List.setIfInBounds_toArray, List.set_append_left _ _ (by simpa using hj), ← hf] at hb
  exact hb
theorem OB.of_same (h : OB w q ty post f cd vl) (e : w'.heap[q]? = w.heap[q]?) : OB w' q ty post f cd vl := ⟨h.blk.of_same e, h.t1, h.t2, h.t3, h.t4⟩
theorem OB.fr {S : List Nat} (h : OB w q ty post f cd vl) (hf : Fr S w w') (hq : q ∉ S) : OB w' q ty post f cd vl := h.of_same (hf.block q h.blk.lt hq)
theorem OB.below (h : OB w q ty post f cd vl) (hb : Below w.heap.size w w') : OB w' q ty post f cd vl := h.of_same (hb.block q h.blk.lt)
theorem OB.drewN (h : OB w q ty post f cd vl) (n : Nat) : OB (w.drewN n) q ty post f cd vl := h.of_same rfl
theorem OB.drew (h : OB w q ty post f cd vl) : OB w.drew q ty post f cd vl := h.of_same rfl
end

section
variable {w w' : World} {p m k g cap : Nat} {s s' : St} {t d : Int} {hd : List Value} {rv ev : Value} {q : Nat} {ty : TypeId} {post : List Value} {f f' : Fra} {cd vl : Int}
theorem OB.ne (h : OB w q ty post f cd vl) (hp : PE w p m k g cap s t d hd rv ev) : q ≠ p ∧ q ≠ m ∧ q ≠ k ∧ q ≠ g := by
  obtain ⟨cur, hb, _⟩ := hp.mem.row.blk
  exact ⟨h.blk.apart hp.blk h.t1, h.blk.apart hp.mem.blk h.t2, h.blk.apart hp.clk h.t3, h.blk.apart hb h.t4⟩
theorem PE.own (hp : PE w p m k g cap s t d hd rv ev) (h : OB w q ty post f cd vl) (hf : Fr [q] w w') : PE w' p m k g cap s t d hd rv ev := by
  obtain ⟨n1, n2, n3, n4⟩ := h.ne hp
  exact hp.fr hf (by simpa using n1.symm) (by simpa using n2.symm) (by simpa using n3.symm) (by simpa using n4.symm)
theorem OB.acc (h : OB w q ty post f cd vl) (hp : PE w p m k g cap s t d hd rv ev) (hf : Fr [m, g] w w') : OB w' q ty post f cd vl := by
  obtain ⟨n1, n2, n3, n4⟩ := h.ne hp
  exact h.fr hf (by simp [n2, n4])

/-- The line that is next. -/
theorem oline_any (h : OB w q ty post f cd vl) :
    Calls Tryz.prog 194 #[.pointer (some ⟨q, 0, none⟩)] w fun e w' => e = .returned (.int .i64 f.ln) ∧ w = w' := by
  have c0 : w.cell? ⟨q, 0, none⟩ = some (.int .i64 f.ln) := h.at_ 0 (by omega)
  clear h
  go_enter Tryz.func194, Tryz.ntmps194
  go_wp2
  go_ret
  exact ⟨rfl, rfl⟩

/-- The next line. -/
theorem onext_any (h : OB w q ty post f cd vl) (l : Int) :
    Calls Tryz.prog 200 #[.pointer (some ⟨q, 0, none⟩), .int .i64 l] w fun e w' => e = .returned (.bool false) ∧ OB w' q ty post { f with ln := l } cd vl ∧ Fr [q] w w' := by
  have c6 : w.cell? ⟨q, 0, none⟩ = some (.int .i64 f.ln) := h.at_ 0 (by omega)
  have k6 := h.free 0
  have H := Lib.hid h
  clear h
  go_enter Tryz.func200, Tryz.ntmps200
  go_wp2
  go_ret
  exact ⟨rfl, H.out.put 0 (by omega) (.int .i64 l) { f with ln := l } cd vl rfl, (Fr.refl _ _).setCell (by simp) _⟩

/-- The end. -/
theorem oend_any (h : OB w q ty post f cd vl) (c v : Int) :
    Calls Tryz.prog 199 #[.pointer (some ⟨q, 0, none⟩), .int .i64 c, .int .i64 v] w fun e w' => e = .returned (.bool true) ∧ OB w' q ty post { f with ln := 0 } c v ∧ Fr [q] w w' := by
  have c6 : w.cell? ⟨q, 0, none⟩ = some (.int .i64 f.ln) := h.at_ 0 (by omega)
  have c7 : w.cell? ⟨q, 1, none⟩ = some (.int .i64 cd) := h.at_ 1 (by omega)
  have c8 : w.cell? ⟨q, 2, none⟩ = some (.int .i64 vl) := h.at_ 2 (by omega)
  have k6 := h.free 0
  have k7 := h.free 1
  have k8 := h.free 2
  have H := Lib.hid h
  clear h
  go_enter Tryz.func199, Tryz.ntmps199
  go_wp2
  go_ret
  exact ⟨rfl, ((H.out.put 0 (by omega) (.int .i64 0) { f with ln := 0 } cd vl rfl).put 1 (by omega) (.int .i64 c) { f with ln := 0 } c vl rfl).put 2 (by omega) (.int .i64 v) { f with ln := 0 } c v rfl,
    (((Fr.refl [q] _).setCell (by simp) _).setCell (by simp) _).setCell (by simp) _⟩

/-- The result. -/
theorem oresult_any (h : OB w q ty post f cd vl) :
    Calls Tryz.prog 192 #[.pointer (some ⟨q, 0, none⟩)] w fun e w' => e = .returned (.tuple #[.int .i64 cd, .int .i64 vl]) ∧ ∃ n, w' = w.drewN n := by
  have c7 : w.cell? ⟨q, 1, none⟩ = some (.int .i64 cd) := h.at_ 1 (by omega)
  have c8 : w.cell? ⟨q, 2, none⟩ = some (.int .i64 vl) := h.at_ 2 (by omega)
  clear h
  go_enter Tryz.func192, Tryz.ntmps192
  go_wp2_with fail
  go_quiet (fail)
  go_wp2
  go_ret2
  exact ⟨rfl, _, rfl⟩

/-- The size for contents b of Bottom. -/
theorem osize_any (h : OB w q ty post f cd vl) (b : Int) :
    Calls Tryz.prog 235 #[.pointer (some ⟨q, 0, none⟩), .int .u64 b] w fun e w' => e = .returned (.int .i64 (sizeI b f.fv)) ∧ w = w' := by
  have c5 : w.cell? ⟨q, 8, none⟩ = some (.int .u64 f.fv) := h.at_ 8 (by omega)
  clear h
  unfold sizeI
  go_enter Tryz.func235, Tryz.ntmps235
  go_wp2
  go_ret
  exact ⟨rfl, rfl⟩

/-- The cell of an index. -/
theorem ocell_any (h : OB w q ty post f cd vl) (i : Int) (hi : 0 ≤ i) (hk : f.qc ≤ 9223372036854775807) :
    Calls Tryz.prog 236 #[.pointer (some ⟨q, 0, none⟩), .int .u64 i] w fun e w' => e = .returned (.int .i64 (ringI f.qr f.qc i)) ∧ Below w.heap.size w w' := by
  have c2 : w.cell? ⟨q, 5, none⟩ = some (.int .i64 f.qr) := h.at_ 5 (by omega)
  have c3 : w.cell? ⟨q, 6, none⟩ = some (.int .i64 f.qc) := h.at_ 6 (by omega)
  clear h
  unfold ringI
  generalize f.qr = r at *
  generalize f.qc = k at *
  by_cases h1 : k < 1
  · rw [if_pos h1]
    go_enter Tryz.func236, Tryz.ntmps236
    go_wp2
    go_ret
    exact ⟨rfl, Below.refl _ _⟩
  · rw [if_neg h1]
    have hk1 : 1 ≤ k := by omega
    have s0 : IntKind.u64.wrap k = k := IntWalk.u64_in _ (by omega)
    go_enter Tryz.func236, Tryz.ntmps236
    go_wp2_with fail
    go_quiet (fail)
    go_wp2
    go_ret
    exact ⟨rfl, below_drewN _ _⟩

/-- What a load into a field gives. -/
def OLoaded (w : World) (p m k g cap : Nat) (s' : St) (t d : Int) (hd : List Value) (rv ev : Value) (q : Nat) (ty : TypeId) (post : List Value) (f' : Fra) (cd vl : Int) (e : Ending) (w' : World) : Prop :=
  e = .returned (.tuple #[]) ∧ PE w' p m k g cap s' t d hd rv ev ∧ OB w' q ty post f' cd vl ∧ Fr [m, g, q] w w'

set_option maxRecDepth 100000 in
set_option maxHeartbeats 2000000 in
/-- Bottom is loaded. -/
theorem oloadBottom_any (hp : PE w p m k g cap s t d hd rv ev) (h : OB w q ty post f cd vl) :
    Calls Tryz.prog 233 #[.pointer (some ⟨q, 0, none⟩), .pointer (some ⟨p, 0, none⟩)] w (OLoaded w p m k g cap (s.go 1 f.qb id) t d hd rv ev q ty post { f with fu := s.old f.qb } cd vl) := by
  obtain ⟨n1, n2, n3, n4⟩ := h.ne hp
  have HN := Lib.hid (And.intro n1 (And.intro n2 n4))
  have hqp := n1.symm
  have P0 := Lib.hid (hp.drewN 1)
  have B0 := Lib.hid h.drew
  have HF0 := Lib.hid ((Fr.refl [m, g, q] w).drew)
  have d20 : w.drew.cell? ⟨p, 20, none⟩ = some (.pointer (some ⟨m, 0, none⟩)) := hp.at20
  have d1 : w.drew.cell? ⟨q, 4, none⟩ = some (.int .i64 f.qb) := B0.out.at_ 4 (by omega)
  clear hp h n2 n3 n4
  go_enter Tryz.func233, Tryz.ntmps233
  go_wp2_with fail
  go_region_held3 (fun w' => w'.cell? ⟨p, 20, none⟩ = some (.pointer (some ⟨m, 0, none⟩)) ∧ w'.cell? ⟨q, 4, none⟩ = some (.int .i64 f.qb)) ((first | exact ⟨x20, x1⟩ | exact ⟨a20, a1⟩ | exact ⟨d20, d1⟩ | go_keep))
    ((go_at_call 212
      refine (load_any P0.out.mem _).mono ?_
      rintro e w1 ⟨rfl, hm, hf⟩
      have P1 := Lib.hid (P0.out.acc hm hf)
      have B1 := Lib.hid (B0.out.acc P0.out hf)
      have HF1 := Lib.hid (HF0.out.trans (hf.mono (by simp)))
      have a20 : w1.cell? ⟨p, 20, none⟩ = some (.pointer (some ⟨m, 0, none⟩)) := P1.out.at20
      have a1 : w1.cell? ⟨q, 4, none⟩ = some (.int .i64 f.qb) := B1.out.at_ 4 (by omega)
      have a4 : w1.cell? ⟨q, 7, none⟩ = some (.int .u64 f.fu) := B1.out.at_ 7 (by omega)
      have f4 := B1.out.free 7
      have x20 : (w1.setCell ⟨q, 7, none⟩ (.int .u64 (s.old f.qb))).cell? ⟨p, 20, none⟩ = some (.pointer (some ⟨m, 0, none⟩)) := by rw [World.cell?_setCell_other _ _ _ _ (by simp [hqp])]; exact a20
      have x1 : (w1.setCell ⟨q, 7, none⟩ (.int .u64 (s.old f.qb))).cell? ⟨q, 4, none⟩ = some (.int .i64 f.qb) := by rw [World.cell?_setCell_other _ _ _ _ (by simp)]; exact a1
      clear hm hf))
  go_end0
  have hs : Fr [q] w1 (w1.setCell ⟨q, 7, none⟩ (.int .u64 (s.old f.qb))) := (Fr.refl _ _).setCell (by simp) _
  exact ⟨rfl, P1.out.own B1.out hs, B1.out.put 7 (by omega) (.int .u64 (s.old f.qb)) { f with fu := s.old f.qb } cd vl rfl, HF1.out.trans (hs.mono (by simp))⟩

set_option maxRecDepth 100000 in
set_option maxHeartbeats 2000000 in
/-- Top is loaded. -/
theorem oloadTop_any (hp : PE w p m k g cap s t d hd rv ev) (h : OB w q ty post f cd vl) :
    Calls Tryz.prog 234 #[.pointer (some ⟨q, 0, none⟩), .pointer (some ⟨p, 0, none⟩)] w (OLoaded w p m k g cap (s.go 1 f.qt id) t d hd rv ev q ty post { f with fv := s.old f.qt } cd vl) := by
  obtain ⟨n1, n2, n3, n4⟩ := h.ne hp
  have HN := Lib.hid (And.intro n1 (And.intro n2 n4))
  have hqp := n1.symm
  have P0 := Lib.hid (hp.drewN 1)
  have B0 := Lib.hid h.drew
  have HF0 := Lib.hid ((Fr.refl [m, g, q] w).drew)
  have d20 : w.drew.cell? ⟨p, 20, none⟩ = some (.pointer (some ⟨m, 0, none⟩)) := hp.at20
  have d1 : w.drew.cell? ⟨q, 3, none⟩ = some (.int .i64 f.qt) := B0.out.at_ 3 (by omega)
  clear hp h n2 n3 n4
  go_enter Tryz.func234, Tryz.ntmps234
  go_wp2_with fail
  go_region_held3 (fun w' => w'.cell? ⟨p, 20, none⟩ = some (.pointer (some ⟨m, 0, none⟩)) ∧ w'.cell? ⟨q, 3, none⟩ = some (.int .i64 f.qt)) ((first | exact ⟨x20, x1⟩ | exact ⟨a20, a1⟩ | exact ⟨d20, d1⟩ | go_keep))
    ((go_at_call 212
      refine (load_any P0.out.mem _).mono ?_
      rintro e w1 ⟨rfl, hm, hf⟩
      have P1 := Lib.hid (P0.out.acc hm hf)
      have B1 := Lib.hid (B0.out.acc P0.out hf)
      have HF1 := Lib.hid (HF0.out.trans (hf.mono (by simp)))
      have a20 : w1.cell? ⟨p, 20, none⟩ = some (.pointer (some ⟨m, 0, none⟩)) := P1.out.at20
      have a1 : w1.cell? ⟨q, 3, none⟩ = some (.int .i64 f.qt) := B1.out.at_ 3 (by omega)
      have a4 : w1.cell? ⟨q, 8, none⟩ = some (.int .u64 f.fv) := B1.out.at_ 8 (by omega)
      have f4 := B1.out.free 8
      have x20 : (w1.setCell ⟨q, 8, none⟩ (.int .u64 (s.old f.qt))).cell? ⟨p, 20, none⟩ = some (.pointer (some ⟨m, 0, none⟩)) := by rw [World.cell?_setCell_other _ _ _ _ (by simp [hqp])]; exact a20
      have x1 : (w1.setCell ⟨q, 8, none⟩ (.int .u64 (s.old f.qt))).cell? ⟨q, 3, none⟩ = some (.int .i64 f.qt) := by rw [World.cell?_setCell_other _ _ _ _ (by simp)]; exact a1
      clear hm hf))
  go_end0
  have hs : Fr [q] w1 (w1.setCell ⟨q, 8, none⟩ (.int .u64 (s.old f.qt))) := (Fr.refl _ _).setCell (by simp) _
  exact ⟨rfl, P1.out.own B1.out hs, B1.out.put 8 (by omega) (.int .u64 (s.old f.qt)) { f with fv := s.old f.qt } cd vl rfl, HF1.out.trans (hs.mono (by simp))⟩
end
end Go.Proofs.YtheimjcgpbmecaaGreat

namespace Go.Proofs.YtheimjcgpbmecaaGreat
open Go Go.RowKit Go.Shelf
set_option linter.unusedSimpArgs false
set_option linter.unusedVariables false

/-- What a step of a machine of the owner gives. -/
def PStepped (w : World) (p m k g cap : Nat) (s' : St) (t d : Int) (hd : List Value) (rv ev : Value) (q : Nat) (ty : TypeId) (post : List Value) (f' : Fra) (r : Res) (e : Ending) (w' : World) : Prop :=
  e = .returned (.bool r.dn) ∧ PE w' p m k g cap s' t d hd rv ev ∧ OB w' q ty post (if r.dn then { f' with ln := 0 } else f') r.cd r.vl ∧ Fr [m, g, q] w w'

section
variable {w : World} {p m k g cap : Nat} {s : St} {t d : Int} {hd : List Value} {rv ev : Value} {q : Nat} {f : Fra}

set_option maxRecDepth 100000 in
set_option maxHeartbeats 2000000 in
theorem pusher_1 (hp : PE w p m k g cap s t d hd rv ev) (h : OB w q 257 [.int .i64 f.fa] f 0 0) (hl : f.ln = 1) :
    Calls Tryz.prog 232 #[.pointer (some ⟨q, 0, none⟩), .pointer (some ⟨p, 0, none⟩)] w (PStepped w p m k g cap (s.go 1 f.qb id) t d hd rv ev q 257 [.int .i64 f.fa] { f with fu := s.old f.qb, ln := 2 } .none) := by
  have hqp : p ≠ q := (h.ne hp).1.symm
  have P0 := Lib.hid hp
  have B0 := Lib.hid h
  have F0 := Lib.hid (Fr.refl [m, g, q] w)
  clear hp h
  have hc0 := oline_any B0.out
  rw [hl] at hc0
  have HC0 := Lib.hid hc0
  clear hc0
  go_enter Tryz.func232, Tryz.ntmps232
  go_wp2_with fail
  (with_reducible refine HC0.out.mono ?_)
  rintro e wx ⟨rfl, rfl⟩
  clear HC0
  go_wp2_with fail
  (with_reducible refine (oloadBottom_any P0.out B0.out).mono ?_)
  rintro e W1 ⟨rfl, hp, hb, hf⟩
  have P1 := Lib.hid hp
  have B1 := Lib.hid hb
  have F1 := Lib.hid (F0.out.trans hf)
  clear hp hb hf
  clear P0 B0 F0
  go_wp2_with fail
  (with_reducible refine (onext_any B1.out 2).mono ?_)
  rintro e W2 ⟨rfl, hb, hf⟩
  have P2 := Lib.hid (P1.out.own B1.out hf)
  have B2 := Lib.hid hb
  have F2 := Lib.hid (F1.out.trans (hf.mono (by simp)))
  clear hb hf
  clear P1 B1 F1
  go_wp2
  go_ret
  exact ⟨rfl, P2.out, B2.out, F2.out⟩
set_option maxRecDepth 100000 in
set_option maxHeartbeats 2000000 in
theorem pusher_2f (hp : PE w p m k g cap s t d hd rv ev) (h : OB w q 257 [.int .i64 f.fa] f 0 0) (hl : f.ln = 2) (hc : f.qc ≤ sizeI f.fu (s.old f.qt)) :
    Calls Tryz.prog 232 #[.pointer (some ⟨q, 0, none⟩), .pointer (some ⟨p, 0, none⟩)] w (PStepped w p m k g cap (s.go 1 f.qt id) t d hd rv ev q 257 [.int .i64 f.fa] { f with fv := s.old f.qt } ⟨true, 3, 0⟩) := by
  have hqp : p ≠ q := (h.ne hp).1.symm
  have P0 := Lib.hid hp
  have B0 := Lib.hid h
  have F0 := Lib.hid (Fr.refl [m, g, q] w)
  clear hp h
  have hc0 := oline_any B0.out
  rw [hl] at hc0
  have HC0 := Lib.hid hc0
  clear hc0
  go_enter Tryz.func232, Tryz.ntmps232
  go_wp2_with fail
  (with_reducible refine HC0.out.mono ?_)
  rintro e wx ⟨rfl, rfl⟩
  clear HC0
  have hcb : decide (f.qc ≤ sizeI f.fu (s.old f.qt)) = true := by simpa using hc
  go_wp2_with fail
  (with_reducible refine (oloadTop_any P0.out B0.out).mono ?_)
  rintro e W1 ⟨rfl, hp, hb, hf⟩
  have P1 := Lib.hid hp
  have B1 := Lib.hid hb
  have F1 := Lib.hid (F0.out.trans hf)
  clear hp hb hf
  clear P0 B0 F0
  go_wp2_with fail
  have c7 : W1.cell? ⟨q, 7, none⟩ = some (.int .u64 f.fu) := B1.out.at_ 7 (by omega)
  have c6 : W1.cell? ⟨q, 6, none⟩ = some (.int .i64 f.qc) := B1.out.at_ 6 (by omega)
  have hq := fun (n : Nat) => (osize_any (B1.out.drewN n) (f.fu)).mono (fun e w' (h : e = .returned (.int .i64 (sizeI (f.fu) (s.old f.qt))) ∧ _ = w') => (⟨h.1, h.2.symm⟩ : e = .returned (.int .i64 (sizeI (f.fu) (s.old f.qt))) ∧ w' = _))
  go_quiet ((go_at_call 235; exact Calls.quiet_of_same (hq _)))
  have P2 := Lib.hid (P1.out.drewN nq)
  have B2 := Lib.hid (B1.out.drewN nq)
  have F2 := Lib.hid (F1.out.drewN nq)
  clear c7 c6
  clear hq
  generalize W1.drewN nq = W2 at *
  clear P1 B1 F1
  go_wp2_with fail
  (with_reducible refine (oend_any B2.out 3 0).mono ?_)
  rintro e W3 ⟨rfl, hb, hf⟩
  have P3 := Lib.hid (P2.out.own B2.out hf)
  have B3 := Lib.hid hb
  have F3 := Lib.hid (F2.out.trans (hf.mono (by simp)))
  clear hb hf
  clear P2 B2 F2
  go_wp2
  go_ret
  exact ⟨rfl, P3.out, B3.out, F3.out⟩
set_option maxRecDepth 100000 in
set_option maxHeartbeats 2000000 in
theorem pusher_2 (hp : PE w p m k g cap s t d hd rv ev) (h : OB w q 257 [.int .i64 f.fa] f 0 0) (hl : f.ln = 2) (hc : ¬ f.qc ≤ sizeI f.fu (s.old f.qt)) :
    Calls Tryz.prog 232 #[.pointer (some ⟨q, 0, none⟩), .pointer (some ⟨p, 0, none⟩)] w (PStepped w p m k g cap (s.go 1 f.qt id) t d hd rv ev q 257 [.int .i64 f.fa] { f with fv := s.old f.qt, ln := 3 } .none) := by
  have hqp : p ≠ q := (h.ne hp).1.symm
  have P0 := Lib.hid hp
  have B0 := Lib.hid h
  have F0 := Lib.hid (Fr.refl [m, g, q] w)
  clear hp h
  have hc0 := oline_any B0.out
  rw [hl] at hc0
  have HC0 := Lib.hid hc0
  clear hc0
  go_enter Tryz.func232, Tryz.ntmps232
  go_wp2_with fail
  (with_reducible refine HC0.out.mono ?_)
  rintro e wx ⟨rfl, rfl⟩
  clear HC0
  have hcb : decide (f.qc ≤ sizeI f.fu (s.old f.qt)) = false := by simpa using hc
  go_wp2_with fail
  (with_reducible refine (oloadTop_any P0.out B0.out).mono ?_)
  rintro e W1 ⟨rfl, hp, hb, hf⟩
  have P1 := Lib.hid hp
  have B1 := Lib.hid hb
  have F1 := Lib.hid (F0.out.trans hf)
  clear hp hb hf
  clear P0 B0 F0
  go_wp2_with fail
  have c7 : W1.cell? ⟨q, 7, none⟩ = some (.int .u64 f.fu) := B1.out.at_ 7 (by omega)
  have c6 : W1.cell? ⟨q, 6, none⟩ = some (.int .i64 f.qc) := B1.out.at_ 6 (by omega)
  have hq := fun (n : Nat) => (osize_any (B1.out.drewN n) (f.fu)).mono (fun e w' (h : e = .returned (.int .i64 (sizeI (f.fu) (s.old f.qt))) ∧ _ = w') => (⟨h.1, h.2.symm⟩ : e = .returned (.int .i64 (sizeI (f.fu) (s.old f.qt))) ∧ w' = _))
  go_quiet ((go_at_call 235; exact Calls.quiet_of_same (hq _)))
  have P2 := Lib.hid (P1.out.drewN nq)
  have B2 := Lib.hid (B1.out.drewN nq)
  have F2 := Lib.hid (F1.out.drewN nq)
  clear c7 c6
  clear hq
  generalize W1.drewN nq = W2 at *
  clear P1 B1 F1
  go_wp2_with fail
  (with_reducible refine (onext_any B2.out 3).mono ?_)
  rintro e W3 ⟨rfl, hb, hf⟩
  have P3 := Lib.hid (P2.out.own B2.out hf)
  have B3 := Lib.hid hb
  have F3 := Lib.hid (F2.out.trans (hf.mono (by simp)))
  clear hb hf
  clear P2 B2 F2
  go_wp2
  go_ret
  exact ⟨rfl, P3.out, B3.out, F3.out⟩
set_option maxRecDepth 100000 in
set_option maxHeartbeats 2000000 in
theorem pusher_3 (hp : PE w p m k g cap s t d hd rv ev) (h : OB w q 257 [.int .i64 f.fa] f 0 0) (hl : f.ln = 3) (hu : 0 ≤ f.fu) (hqc : f.qc ≤ 9223372036854775807) :
    Calls Tryz.prog 232 #[.pointer (some ⟨q, 0, none⟩), .pointer (some ⟨p, 0, none⟩)] w (PStepped w p m k g cap (s.go 2 (ringI f.qr f.qc f.fu) (fun _ => IntKind.u64.wrap f.fa)) t d hd rv ev q 257 [.int .i64 f.fa] { f with ln := 4 } .none) := by
  have hqp : p ≠ q := (h.ne hp).1.symm
  have P0 := Lib.hid hp
  have B0 := Lib.hid h
  have F0 := Lib.hid (Fr.refl [m, g, q] w)
  clear hp h
  have hc0 := oline_any B0.out
  rw [hl] at hc0
  have HC0 := Lib.hid hc0
  clear hc0
  go_enter Tryz.func232, Tryz.ntmps232
  go_wp2_with fail
  (with_reducible refine HC0.out.mono ?_)
  rintro e wx ⟨rfl, rfl⟩
  clear HC0
  go_wp2_with fail
  have P1 := Lib.hid (P0.out.drewN 1)
  have B1 := Lib.hid B0.out.drew
  have F1 := Lib.hid F0.out.drew
  clear P0 B0 F0
  have d20 : w.drew.cell? ⟨p, 20, none⟩ = some (.pointer (some ⟨m, 0, none⟩)) := P1.out.at20
  have d7 : w.drew.cell? ⟨q, 7, none⟩ = some (.int .u64 f.fu) := B1.out.at_ 7 (by omega)
  have d9 : w.drew.cell? ⟨q, 9, none⟩ = some (.int .i64 f.fa) := B1.out.blk.at_ 9
  go_region_held3 (fun w' => w'.cell? ⟨p, 20, none⟩ = some (.pointer (some ⟨m, 0, none⟩)) ∧ w'.cell? ⟨q, 7, none⟩ = some (.int .u64 f.fu) ∧ w'.cell? ⟨q, 9, none⟩ = some (.int .i64 f.fa)) ((first | exact ⟨b20, b7, b9⟩ | exact ⟨a20, a7, a9⟩ | exact ⟨d20, d7, d9⟩ | go_keep))
    (first
      | (go_at_call 236
         refine (ocell_any B1.out _ hu hqc).mono ?_
         rintro e W2 ⟨rfl, hb⟩
         have P2 := Lib.hid (P1.out.below hb)
         have B2 := Lib.hid (B1.out.below hb)
         have F2 := Lib.hid (F1.out.trans (Fr.old hb))
         clear hb
         have a20 : W2.cell? ⟨p, 20, none⟩ = some (.pointer (some ⟨m, 0, none⟩)) := P2.out.at20
         have a7 : W2.cell? ⟨q, 7, none⟩ = some (.int .u64 f.fu) := B2.out.at_ 7 (by omega)
         have a9 : W2.cell? ⟨q, 9, none⟩ = some (.int .i64 f.fa) := B2.out.blk.at_ 9)
      | (go_at_call 16
         refine (store_any P2.out.mem _ _).mono ?_
         rintro e W3 ⟨rfl, hm, hf⟩
         have P3 := Lib.hid (P2.out.acc hm hf)
         have B3 := Lib.hid (B2.out.acc P2.out hf)
         have F3 := Lib.hid (F2.out.trans (hf.mono (by simp)))
         clear hm hf
         have b20 : W3.cell? ⟨p, 20, none⟩ = some (.pointer (some ⟨m, 0, none⟩)) := P3.out.at20
         have b7 : W3.cell? ⟨q, 7, none⟩ = some (.int .u64 f.fu) := B3.out.at_ 7 (by omega)
         have b9 : W3.cell? ⟨q, 9, none⟩ = some (.int .i64 f.fa) := B3.out.blk.at_ 9))
  clear d20 d7 d9 a20 a7 a9 b20 b7 b9 P1 B1 F1 P2 B2 F2
  go_wp2_with fail
  (with_reducible refine (onext_any B3.out 4).mono ?_)
  rintro e W4 ⟨rfl, hb, hf⟩
  have P4 := Lib.hid (P3.out.own B3.out hf)
  have B4 := Lib.hid hb
  have F4 := Lib.hid (F3.out.trans (hf.mono (by simp)))
  clear hb hf
  clear P3 B3 F3
  go_wp2
  go_ret
  exact ⟨rfl, P4.out, B4.out, F4.out⟩
set_option maxRecDepth 100000 in
set_option maxHeartbeats 2000000 in
theorem pusher_4 (hp : PE w p m k g cap s t d hd rv ev) (h : OB w q 257 [.int .i64 f.fa] f 0 0) (hl : f.ln = 4) :
    Calls Tryz.prog 232 #[.pointer (some ⟨q, 0, none⟩), .pointer (some ⟨p, 0, none⟩)] w (PStepped w p m k g cap (s.go 2 f.qb (fun _ => IntKind.u64.wrap (f.fu + 1))) t d hd rv ev q 257 [.int .i64 f.fa] f ⟨true, 0, 0⟩) := by
  have hqp : p ≠ q := (h.ne hp).1.symm
  have P0 := Lib.hid hp
  have B0 := Lib.hid h
  have F0 := Lib.hid (Fr.refl [m, g, q] w)
  clear hp h
  have hc0 := oline_any B0.out
  rw [hl] at hc0
  have HC0 := Lib.hid hc0
  clear hc0
  go_enter Tryz.func232, Tryz.ntmps232
  go_wp2_with fail
  (with_reducible refine HC0.out.mono ?_)
  rintro e wx ⟨rfl, rfl⟩
  clear HC0
  go_wp2_with fail
  have P1 := Lib.hid (P0.out.drewN 1)
  have B1 := Lib.hid B0.out.drew
  have F1 := Lib.hid F0.out.drew
  clear P0 B0 F0
  have d20 : w.drew.cell? ⟨p, 20, none⟩ = some (.pointer (some ⟨m, 0, none⟩)) := P1.out.at20
  have d4 : w.drew.cell? ⟨q, 4, none⟩ = some (.int .i64 f.qb) := B1.out.at_ 4 (by omega)
  have d7 : w.drew.cell? ⟨q, 7, none⟩ = some (.int .u64 f.fu) := B1.out.at_ 7 (by omega)
  go_region_held3 (fun w' => w'.cell? ⟨p, 20, none⟩ = some (.pointer (some ⟨m, 0, none⟩)) ∧ w'.cell? ⟨q, 4, none⟩ = some (.int .i64 f.qb) ∧ w'.cell? ⟨q, 7, none⟩ = some (.int .u64 f.fu)) ((first | exact ⟨a20, a4, a7⟩ | exact ⟨d20, d4, d7⟩ | go_keep))
    ((go_at_call 16
      refine (store_any P1.out.mem _ _).mono ?_
      rintro e W2 ⟨rfl, hm, hf⟩
      have P2 := Lib.hid (P1.out.acc hm hf)
      have B2 := Lib.hid (B1.out.acc P1.out hf)
      have F2 := Lib.hid (F1.out.trans (hf.mono (by simp)))
      clear hm hf
      have a20 : W2.cell? ⟨p, 20, none⟩ = some (.pointer (some ⟨m, 0, none⟩)) := P2.out.at20
      have a4 : W2.cell? ⟨q, 4, none⟩ = some (.int .i64 f.qb) := B2.out.at_ 4 (by omega)
      have a7 : W2.cell? ⟨q, 7, none⟩ = some (.int .u64 f.fu) := B2.out.at_ 7 (by omega)))
  clear d20 d4 d7 a20 a4 a7 P1 B1 F1
  go_wp2_with fail
  (with_reducible refine (oend_any B2.out 0 0).mono ?_)
  rintro e W3 ⟨rfl, hb, hf⟩
  have P3 := Lib.hid (P2.out.own B2.out hf)
  have B3 := Lib.hid hb
  have F3 := Lib.hid (F2.out.trans (hf.mono (by simp)))
  clear hb hf
  clear P2 B2 F2
  go_wp2
  go_ret
  exact ⟨rfl, P3.out, B3.out, F3.out⟩
/-- A pusher that is done. -/
theorem pusher_over {ty : TypeId} {post : List Value} {cd vl : Int} (h : OB w q ty post { f with ln := 0 } cd vl) (v : Value) :
    Calls Tryz.prog 232 #[.pointer (some ⟨q, 0, none⟩), v] w fun e w' => e = .returned (.bool true) ∧ w = w' := by
  have HC := Lib.hid (oline_any h)
  clear h
  go_enter Tryz.func232, Tryz.ntmps232
  go_wp2_with fail
  (with_reducible refine HC.out.mono ?_)
  rintro e wx ⟨rfl, rfl⟩
  go_wp2
  go_ret
  exact ⟨rfl, rfl⟩
theorem pusher_any (hp : PE w p m k g cap s t d hd rv ev) (h : OB w q 257 [.int .i64 f.fa] f 0 0) (hl : f.ln = 1 ∨ f.ln = 2 ∨ f.ln = 3 ∨ f.ln = 4) (hu : 0 ≤ f.fu) (hqc : f.qc ≤ 9223372036854775807) :
    Calls Tryz.prog 232 #[.pointer (some ⟨q, 0, none⟩), .pointer (some ⟨p, 0, none⟩)] w (PStepped w p m k g cap (pushS s f).1 t d hd rv ev q 257 [.int .i64 f.fa] (pushS s f).2.1 (pushS s f).2.2) := by
  unfold pushS
  rcases hl with hl | hl | hl | hl
  · simpa only [hl, if_true] using pusher_1 hp h hl
  · simp only [hl, show ¬ (2 : Int) = 1 by decide, if_false, if_true]
    by_cases hc : f.qc ≤ sizeI f.fu (s.old f.qt)
    · simp only [if_pos hc]
      exact pusher_2f hp h hl hc
    · simp only [if_neg hc]
      exact pusher_2 hp h hl hc
  · simp only [hl, show ¬ (3 : Int) = 1 by decide, show ¬ (3 : Int) = 2 by decide, if_false, if_true]
    exact pusher_3 hp h hl hu hqc
  · simp only [hl, show ¬ (4 : Int) = 1 by decide, show ¬ (4 : Int) = 2 by decide, show ¬ (4 : Int) = 3 by decide, if_false]
    exact pusher_4 hp h hl
end
end Go.Proofs.YtheimjcgpbmecaaGreat
