/-
  A block that begins with parts.Lines: the methods that it embeds. (Written by wip/gen_bm.py.)
  Package memory: Or.
  Package memory: And.
  Package bitmap: at.
-/
import Derived.Test.YtllllbepnnpeeaaGreatMgAC
import Derived.Test.YtllllbepnnpeeaaGreatMgAO
import Derived.Test.YtllllbepnnpeeaaGreatMgAA
import Derived.Deep.QuietTactic
import Derived.BigQuiet
import Derived.RegionTactic
import Derived.Test.YtllllbepnnpeeaaGreatMgAB
import Derived.Test.YtllllbepnnpeeaaGreatMgAT
namespace Go.Proofs.YtllllbepnnpeeaaGreat
open Go Go.RowKit Go.Shelf
set_option linter.unusedSimpArgs false

/-- The cells of lines. -/
abbrev lncells (f : Fra) (cd vl : Int) : List Value := [.int .i64 f.ln, .int .i64 cd, .int .i64 vl]
/-- Block q begins with lines, then post. -/
structure LB (w : World) (q : Nat) (ty : TypeId) (post : List Value) (f : Fra) (cd vl : Int) : Prop where
  blk : Blk w q ty (lncells f cd vl ++ post).toArray
  t1 : ty ≠ 108
  t2 : ty ≠ 163
  t3 : ty ≠ 181
  t4 : ty ≠ 53

section
variable {w w' : World} {q : Nat} {ty : TypeId} {post : List Value} {f f' : Fra} {cd vl : Int}
theorem LB.at_ (h : LB w q ty post f cd vl) (j : Nat) (hj : j < 3) : w.cell? ⟨q, j, none⟩ = (lncells f cd vl)[j]? := by
  rw [h.blk.at_, List.getElem?_toArray, List.getElem?_append_left (by simpa using hj)]
theorem LB.free (h : LB w q ty post f cd vl) (j : Nat) : w.frozen? ⟨q, j, none⟩ = false := h.blk.free j
theorem LB.put (h : LB w q ty post f cd vl) (j : Nat) (hj : j < 3) (u : Value) (f' : Fra) (cd' vl' : Int) (hf : lncells f' cd' vl' = (lncells f cd vl).set j u) : LB (w.setCell ⟨q, j, none⟩ u) q ty post f' cd' vl' := by
  refine ⟨?_, h.t1, h.t2, h.t3, h.t4⟩
  have hb := h.blk.put j u
  rw [List.setIfInBounds_toArray, List.set_append_left _ _ (by simpa using hj), ← hf] at hb
  exact hb
theorem LB.of_same (h : LB w q ty post f cd vl) (e : w'.heap[q]? = w.heap[q]?) : LB w' q ty post f cd vl := ⟨h.blk.of_same e, h.t1, h.t2, h.t3, h.t4⟩
theorem LB.fr {S : List Nat} (h : LB w q ty post f cd vl) (hf : Fr S w w') (hq : q ∉ S) : LB w' q ty post f cd vl := h.of_same (hf.block q h.blk.lt hq)
theorem LB.below (h : LB w q ty post f cd vl) (hb : Below w.heap.size w w') : LB w' q ty post f cd vl := h.of_same (hb.block q h.blk.lt)
theorem LB.drewN (h : LB w q ty post f cd vl) (n : Nat) : LB (w.drewN n) q ty post f cd vl := h.of_same rfl
theorem LB.drew (h : LB w q ty post f cd vl) : LB w.drew q ty post f cd vl := h.of_same rfl
end

section
variable {w w' : World} {p m k g cap : Nat} {s s' : St} {t d : Int} {hd : List Value} {rv ev : Value} {q : Nat} {ty : TypeId} {post : List Value} {f f' : Fra} {cd vl : Int}
theorem LB.ne (h : LB w q ty post f cd vl) (hp : PE w p m k g cap s t d hd rv ev) : q ≠ p ∧ q ≠ m ∧ q ≠ k ∧ q ≠ g := by
  obtain ⟨cur, hb, _⟩ := hp.mem.row.blk
  exact ⟨h.blk.apart hp.blk h.t1, h.blk.apart hp.mem.blk h.t2, h.blk.apart hp.clk h.t3, h.blk.apart hb h.t4⟩
theorem PE.lown (hp : PE w p m k g cap s t d hd rv ev) (h : LB w q ty post f cd vl) (hf : Fr [q] w w') : PE w' p m k g cap s t d hd rv ev := by
  obtain ⟨n1, n2, n3, n4⟩ := h.ne hp
  exact hp.fr hf (by simpa using n1.symm) (by simpa using n2.symm) (by simpa using n3.symm) (by simpa using n4.symm)
theorem LB.acc (h : LB w q ty post f cd vl) (hp : PE w p m k g cap s t d hd rv ev) (hf : Fr [m, g] w w') : LB w' q ty post f cd vl := by
  obtain ⟨n1, n2, n3, n4⟩ := h.ne hp
  exact h.fr hf (by simp [n2, n4])

/-- The line that is next. -/
theorem lline_any (h : LB w q ty post f cd vl) :
    Calls Tryz.prog 185 #[.pointer (some ⟨q, 0, none⟩)] w fun e w' => e = .returned (.int .i64 f.ln) ∧ w = w' := by
  have c0 : w.cell? ⟨q, 0, none⟩ = some (.int .i64 f.ln) := h.at_ 0 (by omega)
  clear h
  go_enter Tryz.func185, Tryz.ntmps185
  go_wp2
  go_ret
  exact ⟨rfl, rfl⟩

/-- The next line. -/
theorem lnext_any (h : LB w q ty post f cd vl) (l : Int) :
    Calls Tryz.prog 195 #[.pointer (some ⟨q, 0, none⟩), .int .i64 l] w fun e w' => e = .returned (.bool false) ∧ LB w' q ty post { f with ln := l } cd vl ∧ Fr [q] w w' := by
  have c6 : w.cell? ⟨q, 0, none⟩ = some (.int .i64 f.ln) := h.at_ 0 (by omega)
  have k6 := h.free 0
  have H := Lib.hid h
  clear h
  go_enter Tryz.func195, Tryz.ntmps195
  go_wp2
  go_ret
  exact ⟨rfl, H.out.put 0 (by omega) (.int .i64 l) { f with ln := l } cd vl rfl, (Fr.refl _ _).setCell (by simp) _⟩

/-- The end. -/
theorem lend_any (h : LB w q ty post f cd vl) (c v : Int) :
    Calls Tryz.prog 189 #[.pointer (some ⟨q, 0, none⟩), .int .i64 c, .int .i64 v] w fun e w' => e = .returned (.bool true) ∧ LB w' q ty post { f with ln := 0 } c v ∧ Fr [q] w w' := by
  have c6 : w.cell? ⟨q, 0, none⟩ = some (.int .i64 f.ln) := h.at_ 0 (by omega)
  have c7 : w.cell? ⟨q, 1, none⟩ = some (.int .i64 cd) := h.at_ 1 (by omega)
  have c8 : w.cell? ⟨q, 2, none⟩ = some (.int .i64 vl) := h.at_ 2 (by omega)
  have k6 := h.free 0
  have k7 := h.free 1
  have k8 := h.free 2
  have H := Lib.hid h
  clear h
  go_enter Tryz.func189, Tryz.ntmps189
  go_wp2
  go_ret
  exact ⟨rfl, ((H.out.put 0 (by omega) (.int .i64 0) { f with ln := 0 } cd vl rfl).put 1 (by omega) (.int .i64 c) { f with ln := 0 } c vl rfl).put 2 (by omega) (.int .i64 v) { f with ln := 0 } c v rfl,
    (((Fr.refl [q] _).setCell (by simp) _).setCell (by simp) _).setCell (by simp) _⟩

/-- The result. -/
theorem lresult_any (h : LB w q ty post f cd vl) :
    Calls Tryz.prog 186 #[.pointer (some ⟨q, 0, none⟩)] w fun e w' => e = .returned (.tuple #[.int .i64 cd, .int .i64 vl]) ∧ ∃ n, w' = w.drewN n := by
  have c7 : w.cell? ⟨q, 1, none⟩ = some (.int .i64 cd) := h.at_ 1 (by omega)
  have c8 : w.cell? ⟨q, 2, none⟩ = some (.int .i64 vl) := h.at_ 2 (by omega)
  clear h
  go_enter Tryz.func186, Tryz.ntmps186
  go_wp2_with fail
  go_quiet (fail)
  go_wp2
  go_ret2
  exact ⟨rfl, _, rfl⟩

/-- What a step of such a machine gives. -/
def LStepped (w : World) (p m k g cap : Nat) (s' : St) (t d : Int) (hd : List Value) (rv ev : Value) (q : Nat) (ty : TypeId) (post : List Value) (f' : Fra) (r : Res) (e : Ending) (w' : World) : Prop :=
  e = .returned (.bool r.dn) ∧ PE w' p m k g cap s' t d hd rv ev ∧ LB w' q ty post (if r.dn then { f' with ln := 0 } else f') r.cd r.vl ∧ Fr [m, g, q] w w'
end
end Go.Proofs.YtllllbepnnpeeaaGreat

namespace Go.Proofs.YtllllbepnnpeeaaGreat
open Go Go.RowKit Go.Shelf

theorem or_fn (x v : Int) (a : Addr) (w : World) (h : w.cell? a = some (.int .u64 v)) : Calls Tryz.prog 191 #[.int .u64 x, .pointer (some a)] w fun e w' => e = .returned (.int .u64 (bits .or .u64 x v)) ∧ w = w' := by
  go_enter Tryz.func191, Tryz.ntmps191
  go_wp2
  go_ret
  exact ⟨rfl, rfl⟩

theorem or_any {w : World} {p g cap : Nat} {s : St} (h : Mem w p g cap s) (i v : Int) :
    Calls Tryz.prog 190 #[.pointer (some ⟨p, 0, none⟩), .int .i64 i, .int .u64 v] w fun e w' => e = .returned (.int .u64 (s.old i)) ∧ Mem w' p g cap (s.go 4 i fun x => bits .or .u64 x v) ∧ Fr [p, g] w w' := by
  have hc : (w.alloc (.cells #[.int .u64 v] 53)).cell? ⟨w.heap.size, 0, none⟩ = some (.int .u64 v) := (Blk.made w 53 #[.int .u64 v]).at_ 0
  have H := access_any (h.alloc (.cells #[.int .u64 v] 53)) 4 i 191 #[.pointer (some ⟨w.heap.size, 0, none⟩)] _ (enters_of Tryz.func191 (by kernel_rfl) rfl) (fun x => or_fn x v _ _ hc)
  generalize s.old i = x at *
  generalize decide (s.has i) = b at *
  go_enter Tryz.func190, Tryz.ntmps190
  go_wp2_with fail
  refine H.mono ?_
  rintro e w' ⟨rfl, hm, hfr⟩
  go_wp2
  go_ret
  exact ⟨rfl, hm, ((Fr.refl _ _).alloc _).trans hfr⟩
end Go.Proofs.YtllllbepnnpeeaaGreat

namespace Go.Proofs.YtllllbepnnpeeaaGreat
open Go Go.RowKit Go.Shelf

theorem and_fn (x v : Int) (a : Addr) (w : World) (h : w.cell? a = some (.int .u64 v)) : Calls Tryz.prog 201 #[.int .u64 x, .pointer (some a)] w fun e w' => e = .returned (.int .u64 (bits .and .u64 x v)) ∧ w = w' := by
  go_enter Tryz.func201, Tryz.ntmps201
  go_wp2
  go_ret
  exact ⟨rfl, rfl⟩

theorem and_any {w : World} {p g cap : Nat} {s : St} (h : Mem w p g cap s) (i v : Int) :
    Calls Tryz.prog 199 #[.pointer (some ⟨p, 0, none⟩), .int .i64 i, .int .u64 v] w fun e w' => e = .returned (.int .u64 (s.old i)) ∧ Mem w' p g cap (s.go 5 i fun x => bits .and .u64 x v) ∧ Fr [p, g] w w' := by
  have hc : (w.alloc (.cells #[.int .u64 v] 53)).cell? ⟨w.heap.size, 0, none⟩ = some (.int .u64 v) := (Blk.made w 53 #[.int .u64 v]).at_ 0
  have H := access_any (h.alloc (.cells #[.int .u64 v] 53)) 5 i 201 #[.pointer (some ⟨w.heap.size, 0, none⟩)] _ (enters_of Tryz.func201 (by kernel_rfl) rfl) (fun x => and_fn x v _ _ hc)
  generalize s.old i = x at *
  generalize decide (s.has i) = b at *
  go_enter Tryz.func199, Tryz.ntmps199
  go_wp2_with fail
  refine H.mono ?_
  rintro e w' ⟨rfl, hm, hfr⟩
  go_wp2
  go_ret
  exact ⟨rfl, hm, ((Fr.refl _ _).alloc _).trans hfr⟩
end Go.Proofs.YtllllbepnnpeeaaGreat

namespace Go.Proofs.YtllllbepnnpeeaaGreat
open Go Go.RowKit Go.Shelf
set_option linter.unusedSimpArgs false
set_option linter.unusedVariables false

set_option maxHeartbeats 1000000 in
/-- A bit of a cell. -/
theorem at_any (c b : Int) (w : World) : Calls Tryz.prog 49 #[.int .i64 c, .int .i64 b] w fun e w' => e = .returned (.agg #[.int .i64 c, .int .u64 (maskS b)]) ∧ Below w.heap.size w w' := by
  have hX := Blk.made w 137 #[.int .i64 0, .int .u64 0]
  have hB := below_one w (.cells #[.int .i64 0, .int .u64 0] 137)
  have HX := Lib.hid hX
  have HB := Lib.hid hB
  clear hX hB
  unfold maskS
  have key : ∀ x : Int, (x < 0 ∨ 63 < x) → Calls Tryz.prog 49 #[.int .i64 c, .int .i64 x] w fun e w' => e = .returned (.agg #[.int .i64 c, .int .u64 0]) ∧ Below w.heap.size w w' := by
    intro x hx
    by_cases h0 : x < 0
    · go_enter Tryz.func49, Tryz.ntmps49
      go_upto_region 1 with fail
      generalize w.alloc (.cells #[.int .i64 0, .int .u64 0] 137) = W1 at *
      have c0 := HX.out.at_ 0
      have c1 := HX.out.at_ 1
      have f0 := HX.out.free 0
      have f1 := HX.out.free 1
      go_wp2
      have HY := ((HX.out.put 0 (.int .i64 c)).put 1 (.int .u64 0))
      have HF : Fr [w.heap.size] W1 ((W1.setCell ⟨w.heap.size, 0, none⟩ (.int .i64 c)).setCell ⟨w.heap.size, 1, none⟩ (.int .u64 0)) := ((Fr.refl _ _).setCell (by simp) _).setCell (by simp) _
      refine bodyPost_ret (results_cell_row (P := Tryz.prog) Tryz.results49 _ _ w.heap.size 137 _ (0, 0) _ rfl HY Tryz.underlying137 rfl (by kernel_rfl)) rfl ?_
      exact ⟨rfl, below_of_fr HB.out HF (fun y hy => by simp at hy; omega)⟩
    · have h1 : 64 ≤ x := by omega
      go_enter Tryz.func49, Tryz.ntmps49
      go_upto_region 1 with fail
      generalize w.alloc (.cells #[.int .i64 0, .int .u64 0] 137) = W1 at *
      have c0 := HX.out.at_ 0
      have c1 := HX.out.at_ 1
      have f0 := HX.out.free 0
      have f1 := HX.out.free 1
      go_wp2
      have HY := ((HX.out.put 0 (.int .i64 c)).put 1 (.int .u64 0))
      have HF : Fr [w.heap.size] W1 ((W1.setCell ⟨w.heap.size, 0, none⟩ (.int .i64 c)).setCell ⟨w.heap.size, 1, none⟩ (.int .u64 0)) := ((Fr.refl _ _).setCell (by simp) _).setCell (by simp) _
      refine bodyPost_ret (results_cell_row (P := Tryz.prog) Tryz.results49 _ _ w.heap.size 137 _ (0, 0) _ rfl HY Tryz.underlying137 rfl (by kernel_rfl)) rfl ?_
      exact ⟨rfl, below_of_fr HB.out HF (fun y hy => by simp at hy; omega)⟩
  by_cases hb : b < 0 ∨ 63 < b
  · rw [if_pos hb]
    exact key b hb
  · rw [if_neg hb]
    obtain ⟨k, rfl⟩ : ∃ k : Nat, b = (k : Int) := ⟨b.toNat, by omega⟩
    rw [Int.toNat_natCast]
    have hk : k < 64 := by omega
    have h0 : decide ((k : Int) < 0) = false := by simp
    have h1 : decide ((64 : Int) ≤ (k : Int)) = false := by simp; omega
    go_enter Tryz.func49, Tryz.ntmps49
    go_upto_region 1 with fail
    generalize w.alloc (.cells #[.int .i64 0, .int .u64 0] 137) = W1 at *
    have c0 := HX.out.at_ 0
    have c1 := HX.out.at_ 1
    have f0 := HX.out.free 0
    have f1 := HX.out.free 1
    go_wp2
    have hpw : IntKind.u64.wrap ((2 : Int) ^ k) = ((2 ^ k : Nat) : Int) := by
      have h2 : ((2 : Int) ^ k) = ((2 ^ k : Nat) : Int) := by simp
      have h3 : (2 : Nat) ^ k ≤ 2 ^ 63 := Nat.pow_le_pow_right (by decide) (by omega)
      rw [h2, IntKind.wrap_u64]
      generalize (2 : Nat) ^ k = P at *
      omega
    rw [hpw]
    generalize (2 ^ k : Nat) = P at *
    have HY := ((HX.out.put 0 (.int .i64 c)).put 1 (.int .u64 (P : Int)))
    have HF : Fr [w.heap.size] W1 ((W1.setCell ⟨w.heap.size, 0, none⟩ (.int .i64 c)).setCell ⟨w.heap.size, 1, none⟩ (.int .u64 (P : Int))) := ((Fr.refl _ _).setCell (by simp) _).setCell (by simp) _
    refine bodyPost_ret (results_cell_row (P := Tryz.prog) Tryz.results49 _ _ w.heap.size 137 _ (0, 0) _ rfl HY Tryz.underlying137 rfl (by kernel_rfl)) rfl ?_
    exact ⟨rfl, below_of_fr HB.out HF (fun y hy => by simp at hy; omega)⟩
end Go.Proofs.YtllllbepnnpeeaaGreat
