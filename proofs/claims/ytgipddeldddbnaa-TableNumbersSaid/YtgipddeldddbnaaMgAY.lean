/-
  Package memory: Load.
  Package parts: the cells that the machines on a deque share, and the methods that they embed.
-/
import Derived.Test.YtgipddeldddbnaaMemAcc
import Derived.Test.YtgipddeldddbnaaMgAM
import Derived.Test.YtgipddeldddbnaaMgAB
import Derived.Test.YtgipddeldddbnaaMgAF
import Derived.Deep.QuietTactic
import Derived.BigQuiet
import Derived.Deep.RegionHeld3
import Derived.RegionTactic
namespace Go.Proofs.Ytgipddeldddbnaa
open Go Go.RowKit Go.Shelf

end Go.Proofs.Ytgipddeldddbnaa

namespace Go.Proofs.Ytgipddeldddbnaa
open Go Go.RowKit Go.Shelf
set_option linter.unusedSimpArgs false

/-- The cells of what machines on a deque share. -/
abbrev ocells (f : Fra) (cd vl : Int) : List Value := [.int .i64 f.ln, .int .i64 cd, .int .i64 vl, .int .i64 f.qt, .int .i64 f.qb, .int .i64 f.qr, .int .i64 f.qc, .int .u64 f.fu, .int .u64 f.fv]
/-- Block q is a machine on a deque: what is shared, then post. -/
structure OB (w : World) (q : Nat) (ty : TypeId) (post : List Value) (f : Fra) (cd vl : Int) : Prop where
  blk : Blk w q ty (ocells f cd vl ++ post).toArray
  t1 : ty ≠ 39
  t2 : ty ≠ 100
  t3 : ty ≠ 102
  t4 : ty ≠ 96

section
variable {w w' : World} {q : Nat} {ty : TypeId} {post : List Value} {f f' : Fra} {cd vl : Int}
theorem OB.at_ (h : OB w q ty post f cd vl) (j : Nat) (hj : j < 9) : w.cell? ⟨q, j, none⟩ = (ocells f cd vl)[j]? := by
  rw [h.blk.at_, List.getElem?_toArray, List.getElem?_append_left (by simpa using hj)]
theorem OB.free (h : OB w q ty post f cd vl) (j : Nat) : w.frozen? ⟨q, j, none⟩ = false := h.blk.free j
theorem OB.put (h : OB w q ty post f cd vl) (j : Nat) (hj : j < 9) (u : Value) (f' : Fra) (cd' vl' : Int) (hf : ocells f' cd' vl' = (ocells f cd vl).set j u) : OB (w.setCell ⟨q, j, none⟩ u) q ty post f' cd' vl' := by
  refine ⟨?_, h.t1, h.t2, h.t3, h.t4⟩
  have hb := h.blk.put j u
  rw [List.setIfInBounds_toArray, List.set_append_left _ _ (by simpa using hj), ← hf] at hb
  exact hb
theorem OB.of_same (h : OB w q ty post f cd vl) (e : w'.heap[q]? = w.heap[q]?) : OB w' q ty post f cd vl := ⟨h.blk.of_same e, h.t1, h.t2, h.t3, h.t4⟩
theorem OB.fr {S : List Nat} (h : OB w q ty post f cd vl) (hf : Fr S w w') (hq : q ∉ S) : OB w' q ty post f cd vl := h.of_same (hf.block q h.blk.lt hq)
theorem OB.below (h : OB w q ty post f cd vl) (hb : Below w.heap.size w w') : OB w' q ty post f cd vl := h.of_same (hb.block q h.blk.lt)
theorem OB.drewN (h : OB w q ty post f cd vl) (n : Nat) : OB (w.drewN n) q ty post f cd vl := h.of_same rfl
theorem OB.drew (h : OB w q ty post f cd vl) : OB w.drew q ty post f cd vl := h.of_same rfl
end

section
variable {w w' : World} {p m k g cap : Nat} {s s' : St} {t d : Int} {hd : List Value} {rv ev : Value} {q : Nat} {ty : TypeId} {post : List Value} {f f' : Fra} {cd vl : Int}
theorem OB.ne (h : OB w q ty post f cd vl) (hp : PE w p m k g cap s t d hd rv ev) : q ≠ p ∧ q ≠ m ∧ q ≠ k ∧ q ≠ g := by
  obtain ⟨cur, hb, _⟩ := hp.mem.row.blk
  exact ⟨h.blk.apart hp.blk h.t1, h.blk.apart hp.mem.blk h.t2, h.blk.apart hp.clk h.t3, h.blk.apart hb h.t4⟩
theorem PE.own (hp : PE w p m k g cap s t d hd rv ev) (h : OB w q ty post f cd vl) (hf : Fr [q] w w') : PE w' p m k g cap s t d hd rv ev := by
  obtain ⟨n1, n2, n3, n4⟩ := h.ne hp
  exact hp.fr hf (by simpa using n1.symm) (by simpa using n2.symm) (by simpa using n3.symm) (by simpa using n4.symm)
theorem OB.acc (h : OB w q ty post f cd vl) (hp : PE w p m k g cap s t d hd rv ev) (hf : Fr [m, g] w w') : OB w' q ty post f cd vl := by
  obtain ⟨n1, n2, n3, n4⟩ := h.ne hp
  exact h.fr hf (by simp [n2, n4])

/-- The line that is next. -/
theorem oline_any (h : OB w q ty post f cd vl) :
    Calls Try.prog 54 #[.pointer (some ⟨q, 0, none⟩)] w fun e w' => e = .returned (.int .i64 f.ln) ∧ w = w' := by
  have c0 : w.cell? ⟨q, 0, none⟩ = some (.int .i64 f.ln) := h.at_ 0 (by omega)
  clear h
  go_enter Try.func54, Try.ntmps54
  go_wp2
  go_ret
  exact ⟨rfl, rfl⟩

/-- The next line. -/
theorem onext_any (h : OB w q ty post f cd vl) (l : Int) :
    Calls Try.prog 69 #[.pointer (some ⟨q, 0, none⟩), .int .i64 l] w fun e w' => e = .returned (.bool false) ∧ OB w' q ty post { f with ln := l } cd vl ∧ Fr [q] w w' := by
  have c6 : w.cell? ⟨q, 0, none⟩ = some (.int .i64 f.ln) := h.at_ 0 (by omega)
  have k6 := h.free 0
  have H := Lib.hid h
  clear h
  go_enter Try.func69, Try.ntmps69
  go_wp2
  go_ret
  exact ⟨rfl, H.out.put 0 (by omega) (.int .i64 l) { f with ln := l } cd vl rfl, (Fr.refl _ _).setCell (by simp) _⟩

/-- The end. -/
theorem oend_any (h : OB w q ty post f cd vl) (c v : Int) :
    Calls Try.prog 60 #[.pointer (some ⟨q, 0, none⟩), .int .i64 c, .int .i64 v] w fun e w' => e = .returned (.bool true) ∧ OB w' q ty post { f with ln := 0 } c v ∧ Fr [q] w w' := by
  have c6 : w.cell? ⟨q, 0, none⟩ = some (.int .i64 f.ln) := h.at_ 0 (by omega)
  have c7 : w.cell? ⟨q, 1, none⟩ = some (.int .i64 cd) := h.at_ 1 (by omega)
  have c8 : w.cell? ⟨q, 2, none⟩ = some (.int .i64 vl) := h.at_ 2 (by omega)
  have k6 := h.free 0
  have k7 := h.free 1
  have k8 := h.free 2
  have H := Lib.hid h
  clear h
  go_enter Try.func60, Try.ntmps60
  go_wp2
  go_ret
  exact ⟨rfl, ((H.out.put 0 (by omega) (.int .i64 0) { f with ln := 0 } cd vl rfl).put 1 (by omega) (.int .i64 c) { f with ln := 0 } c vl rfl).put 2 (by omega) (.int .i64 v) { f with ln := 0 } c v rfl,
    (((Fr.refl [q] _).setCell (by simp) _).setCell (by simp) _).setCell (by simp) _⟩

/-- The result. -/
theorem oresult_any (h : OB w q ty post f cd vl) :
    Calls Try.prog 55 #[.pointer (some ⟨q, 0, none⟩)] w fun e w' => e = .returned (.tuple #[.int .i64 cd, .int .i64 vl]) ∧ ∃ n, w' = w.drewN n := by
  have c7 : w.cell? ⟨q, 1, none⟩ = some (.int .i64 cd) := h.at_ 1 (by omega)
  have c8 : w.cell? ⟨q, 2, none⟩ = some (.int .i64 vl) := h.at_ 2 (by omega)
  clear h
  go_enter Try.func55, Try.ntmps55
  go_wp2_with fail
  go_quiet (fail)
  go_wp2
  go_ret2
  exact ⟨rfl, _, rfl⟩

/-- What a load into a field gives. -/
def OLoaded (w : World) (p m k g cap : Nat) (s' : St) (t d : Int) (hd : List Value) (rv ev : Value) (q : Nat) (ty : TypeId) (post : List Value) (f' : Fra) (cd vl : Int) (e : Ending) (w' : World) : Prop :=
  e = .returned (.tuple #[]) ∧ PE w' p m k g cap s' t d hd rv ev ∧ OB w' q ty post f' cd vl ∧ Fr [m, g, q] w w'

end
end Go.Proofs.Ytgipddeldddbnaa
