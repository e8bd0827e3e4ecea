/-
  A block that begins with parts.Lines: the methods that it embeds. (Written by wip/gen_bm.py.)
  Package levels: the deque and the bitmap of a machine, by the layout of the environment.
-/
import Derived.Test.YtgipddeldddbnaaGreatMgAI
import Derived.Test.YtgipddeldddbnaaGreatMgAA
import Derived.Test.YtgipddeldddbnaaGreatMgAD
import Derived.Deep.QuietTactic
import Derived.BigQuiet
import Derived.RegionTactic
import Derived.Test.YtgipddeldddbnaaGreatMgAJ
import Derived.Test.YtgipddeldddbnaaGreatLyC
import Derived.Deep.RegionHeld3
namespace Go.Proofs.YtgipddeldddbnaaGreat
open Go Go.RowKit Go.Shelf
set_option linter.unusedSimpArgs false

/-- The cells of lines. -/
abbrev lncells (f : Fra) (cd vl : Int) : List Value := [.int .i64 f.ln, .int .i64 cd, .int .i64 vl]
/-- Block q begins with lines, then post. -/
structure LB (w : World) (q : Nat) (ty : TypeId) (post : List Value) (f : Fra) (cd vl : Int) : Prop where
  blk : Blk w q ty (lncells f cd vl ++ post).toArray
  t1 : ty ≠ 40
  t2 : ty ≠ 107
  t3 : ty ≠ 109
  t4 : ty ≠ 103

section
variable {w w' : World} {q : Nat} {ty : TypeId} {post : List Value} {f f' : Fra} {cd vl : Int}
theorem LB.at_ (h : LB w q ty post f cd vl) (j : Nat) (hj : j < 3) : w.cell? ⟨q, j, none⟩ = (lncells f cd vl)[j]? := by
  rw [h.blk.at_, List.getElem?_toArray, List.getElem?_append_left (by simpa using hj)]
theorem LB.free (h : LB w q ty post f cd vl) (j : Nat) : w.frozen? ⟨q, j, none⟩ = false := h.blk.free j
theorem LB.put (h : LB w q ty post f cd vl) (j : Nat) (hj : j < 3) (u : Value) (f' : Fra) (cd' vl' : Int) (hf : lncells f' cd' vl' = (lncells f cd vl).set j u) : LB (w.setCell ⟨q, j, none⟩ u) q ty post f' cd' vl' := by
  refine ⟨?_, h.t1, h.t2, h.t3, h.t4⟩
  have hb := h.blk.put j u
  rw [List.setIfInBounds_toArray, List.set_append_left _ _ (by simpa using hj), ← hf] at hb
  exact hb
theorem LB.of_same (h : LB w q ty post f cd vl) (e : w'.heap[q]? = w.heap[q]?) : LB w' q ty post f cd vl := ⟨h.blk.of_same e, h.t1, h.t2, h.t3, h.t4⟩
theorem LB.fr {S : List Nat} (h : LB w q ty post f cd vl) (hf : Fr S w w') (hq : q ∉ S) : LB w' q ty post f cd vl := h.of_same (hf.block q h.blk.lt hq)
theorem LB.below (h : LB w q ty post f cd vl) (hb : Below w.heap.size w w') : LB w' q ty post f cd vl := h.of_same (hb.block q h.blk.lt)
theorem LB.drewN (h : LB w q ty post f cd vl) (n : Nat) : LB (w.drewN n) q ty post f cd vl := h.of_same rfl
theorem LB.drew (h : LB w q ty post f cd vl) : LB w.drew q ty post f cd vl := h.of_same rfl
end

section
variable {w w' : World} {p m k g cap : Nat} {s s' : St} {t d : Int} {hd : List Value} {rv ev : Value} {q : Nat} {ty : TypeId} {post : List Value} {f f' : Fra} {cd vl : Int}
theorem LB.ne (h : LB w q ty post f cd vl) (hp : PE w p m k g cap s t d hd rv ev) : q ≠ p ∧ q ≠ m ∧ q ≠ k ∧ q ≠ g := by
  obtain ⟨cur, hb, _⟩ := hp.mem.row.blk
  exact ⟨h.blk.apart hp.blk h.t1, h.blk.apart hp.mem.blk h.t2, h.blk.apart hp.clk h.t3, h.blk.apart hb h.t4⟩
theorem PE.lown (hp : PE w p m k g cap s t d hd rv ev) (h : LB w q ty post f cd vl) (hf : Fr [q] w w') : PE w' p m k g cap s t d hd rv ev := by
  obtain ⟨n1, n2, n3, n4⟩ := h.ne hp
  exact hp.fr hf (by simpa using n1.symm) (by simpa using n2.symm) (by simpa using n3.symm) (by simpa using n4.symm)
theorem LB.acc (h : LB w q ty post f cd vl) (hp : PE w p m k g cap s t d hd rv ev) (hf : Fr [m, g] w w') : LB w' q ty post f cd vl := by
  obtain ⟨n1, n2, n3, n4⟩ := h.ne hp
  exact h.fr hf (by simp [n2, n4])

/-- The line that is next. -/
theorem lline_any (h : LB w q ty post f cd vl) :
    Calls Tryz.prog 60 #[.pointer (some ⟨q, 0, none⟩)] w fun e w' => e = .returned (.int .i64 f.ln) ∧ w = w' := by
  have c0 : w.cell? ⟨q, 0, none⟩ = some (.int .i64 f.ln) := h.at_ 0 (by omega)
  clear h
  go_enter Tryz.func60, Tryz.ntmps60
  go_wp2
  go_ret
  exact ⟨rfl, rfl⟩

/-- The next line. -/
theorem lnext_any (h : LB w q ty post f cd vl) (l : Int) :
    Calls Tryz.prog 64 #[.pointer (some ⟨q, 0, none⟩), .int .i64 l] w fun e w' => e = .returned (.bool false) ∧ LB w' q ty post { f with ln := l } cd vl ∧ Fr [q] w w' := by
  have c6 : w.cell? ⟨q, 0, none⟩ = some (.int .i64 f.ln) := h.at_ 0 (by omega)
  have k6 := h.free 0
  have H := Lib.hid h
  clear h
  go_enter Tryz.func64, Tryz.ntmps64
  go_wp2
  go_ret
  exact ⟨rfl, H.out.put 0 (by omega) (.int .i64 l) { f with ln := l } cd vl rfl, (Fr.refl _ _).setCell (by simp) _⟩

/-- The end. -/
theorem lend_any (h : LB w q ty post f cd vl) (c v : Int) :
    Calls Tryz.prog 62 #[.pointer (some ⟨q, 0, none⟩), .int .i64 c, .int .i64 v] w fun e w' => e = .returned (.bool true) ∧ LB w' q ty post { f with ln := 0 } c v ∧ Fr [q] w w' := by
  have c6 : w.cell? ⟨q, 0, none⟩ = some (.int .i64 f.ln) := h.at_ 0 (by omega)
  have c7 : w.cell? ⟨q, 1, none⟩ = some (.int .i64 cd) := h.at_ 1 (by omega)
  have c8 : w.cell? ⟨q, 2, none⟩ = some (.int .i64 vl) := h.at_ 2 (by omega)
  have k6 := h.free 0
  have k7 := h.free 1
  have k8 := h.free 2
  have H := Lib.hid h
  clear h
  go_enter Tryz.func62, Tryz.ntmps62
  go_wp2
  go_ret
  exact ⟨rfl, ((H.out.put 0 (by omega) (.int .i64 0) { f with ln := 0 } cd vl rfl).put 1 (by omega) (.int .i64 c) { f with ln := 0 } c vl rfl).put 2 (by omega) (.int .i64 v) { f with ln := 0 } c v rfl,
    (((Fr.refl [q] _).setCell (by simp) _).setCell (by simp) _).setCell (by simp) _⟩

/-- The result. -/
theorem lresult_any (h : LB w q ty post f cd vl) :
    Calls Tryz.prog 58 #[.pointer (some ⟨q, 0, none⟩)] w fun e w' => e = .returned (.tuple #[.int .i64 cd, .int .i64 vl]) ∧ ∃ n, w' = w.drewN n := by
  have c7 : w.cell? ⟨q, 1, none⟩ = some (.int .i64 cd) := h.at_ 1 (by omega)
  have c8 : w.cell? ⟨q, 2, none⟩ = some (.int .i64 vl) := h.at_ 2 (by omega)
  clear h
  go_enter Tryz.func58, Tryz.ntmps58
  go_wp2_with fail
  go_quiet (fail)
  go_wp2
  go_ret2
  exact ⟨rfl, _, rfl⟩

/-- What a step of such a machine gives. -/
def LStepped (w : World) (p m k g cap : Nat) (s' : St) (t d : Int) (hd : List Value) (rv ev : Value) (q : Nat) (ty : TypeId) (post : List Value) (f' : Fra) (r : Res) (e : Ending) (w' : World) : Prop :=
  e = .returned (.bool r.dn) ∧ PE w' p m k g cap s' t d hd rv ev ∧ LB w' q ty post (if r.dn then { f' with ln := 0 } else f') r.cd r.vl ∧ Fr [m, g, q] w w'
end
end Go.Proofs.YtgipddeldddbnaaGreat

namespace Go.Proofs.YtgipddeldddbnaaGreat
open Go Go.RowKit Go.Shelf
set_option linter.unusedSimpArgs false

/-- The nine numbers of a configuration. -/
abbrev numsC (c : Cfg) : List Value := [.int .i64 c.wo, .int .i64 c.le, .int .i64 c.cl, .int .i64 c.ta, .int .i64 c.de, .int .i64 c.he, .int .i64 c.ba, .int .i64 c.ag, .int .i64 c.pa]
/-- The cells ahead of an environment's pointers hold the numbers and the layout of c. -/
def LayHd (hd : List Value) (c : Cfg) : Prop := (∀ j, j < 9 → hd[11 + j]? = (lcells c)[j]?) ∧ ∀ j, j < 9 → hd[j]? = (numsC c)[j]?
section
variable {w w' : World} {p m k g cap : Nat} {s s' : St} {t d : Int} {hd : List Value} {rv ev : Value} {c : Cfg}
theorem PE.lay (h : PE w p m k g cap s t d hd rv ev) (hl : LayHd hd c) (j : Nat) (hj : j < 9) : w.cell? ⟨p, 11 + j, none⟩ = (lcells c)[j]? := by
  rw [h.blk.at_, List.getElem?_toArray, List.getElem?_append_left (by have := h.len; omega)]
  exact hl.1 j hj
theorem PE.num (h : PE w p m k g cap s t d hd rv ev) (hl : LayHd hd c) (j : Nat) (hj : j < 9) : w.cell? ⟨p, j, none⟩ = (numsC c)[j]? := by
  rw [h.blk.at_, List.getElem?_toArray, List.getElem?_append_left (by have := h.len; omega)]
  exact hl.2 j hj
/-- The nine cells of the layout. -/
def LayS (w : World) (p : Nat) (c : Cfg) : Prop := w.cell? ⟨p, 11, none⟩ = some (.int .i64 4) ∧ w.cell? ⟨p, 12, none⟩ = some (.int .i64 (4 + c.he)) ∧ w.cell? ⟨p, 13, none⟩ = some (.int .i64 (4 + c.he + c.cl)) ∧ w.cell? ⟨p, 14, none⟩ = some (.int .i64 (4 + c.he + c.cl + c.wo)) ∧ w.cell? ⟨p, 15, none⟩ = some (.int .i64 (rDeques c)) ∧ w.cell? ⟨p, 16, none⟩ = some (.int .i64 (rDeques c + rAll c)) ∧ w.cell? ⟨p, 17, none⟩ = some (.int .i64 (rCells c)) ∧ w.cell? ⟨p, 18, none⟩ = some (.int .i64 c.le) ∧ w.cell? ⟨p, 19, none⟩ = some (.int .i64 c.de)
theorem PE.layS (h : PE w p m k g cap s t d hd rv ev) (hl : LayHd hd c) : LayS w p c :=
  ⟨h.lay hl 0 (by omega), h.lay hl 1 (by omega), h.lay hl 2 (by omega), h.lay hl 3 (by omega), h.lay hl 4 (by omega), h.lay hl 5 (by omega), h.lay hl 6 (by omega), h.lay hl 7 (by omega), h.lay hl 8 (by omega)⟩
variable {b : Nat} {ty : TypeId} {cs : Array Value}
set_option maxRecDepth 100000 in
set_option maxHeartbeats 2000000 in
theorem lvqueue_any (hp : PE w p m k g cap s t d hd rv ev) (hl : LayHd hd c) (hin : CfgIn c) (hb : Blk w b ty cs) {wk lv : Int} (h4 : cs[4]? = some (.int .i64 wk)) (h5 : cs[5]? = some (.int .i64 lv)) :
    Calls Tryz.prog 101 #[.pointer (some ⟨b, 0, none⟩), .pointer (some ⟨p, 0, none⟩)] w (GivesQ (rQueue c wk lv) w) := by
  have P0 := Lib.hid hp
  have B0 := Lib.hid hb
  have H45 := Lib.hid (And.intro h4 h5)
  obtain ⟨z, hz⟩ : ∃ z, w.heap.size = z := ⟨_, rfl⟩
  have HX := Lib.hid (show Blk (w.alloc (.cells (qcells 0 0 0 0) 161)) z 161 (qcells 0 0 0 0) from hz ▸ Blk.made w 161 (qcells 0 0 0 0))
  have HB := Lib.hid (show Below z w (w.alloc (.cells (qcells 0 0 0 0) 161)) from hz ▸ below_one w (.cells (qcells 0 0 0 0) 161))
  clear hp hb h4 h5
  go_enter Tryz.func101, Tryz.ntmps101
  go_upto_region 1 with fail
  have P1 := Lib.hid ((P0.out.alloc (.cells (qcells 0 0 0 0) 161)).drewN 1)
  have B1 := Lib.hid (B0.out.below (hz.symm ▸ HB.out))
  have HB1 := Lib.hid (below_drew HB.out)
  have X1 := Lib.hid (show Blk (w.alloc (.cells (qcells 0 0 0 0) 161)).drew z 161 (qcells 0 0 0 0) from HX.out)
  have B2 := Lib.hid (show Blk (w.alloc (.cells (qcells 0 0 0 0) 161)).drew b ty cs from B1.out)
  generalize w.alloc (.cells (qcells 0 0 0 0) 161) = W at *
  obtain ⟨d0, d1, d2, d3, d4, d5, d6, d7, d8⟩ := P1.out.layS hl
  have d9 : W.drew.cell? ⟨b, 4, none⟩ = some (.int .i64 wk) := by rw [B2.out.at_]; exact H45.out.1
  have d10 : W.drew.cell? ⟨b, 5, none⟩ = some (.int .i64 lv) := by rw [B2.out.at_]; exact H45.out.2
  change W.drew.cell? _ = _ at d0 d1 d2 d3 d4 d5 d6 d7 d8
  clear B1 HX HB
  have HZ := Lib.hid hz
  clear hz
  go_still_tail 12, (by kernel_rfl)
  change wpList _ _ _ _ _ W.drew
  generalize W.drew = W1 at *
  go_wp2_with fail
  (with_reducible refine (lqueue_any hin wk lv).mono ?_)
  rintro e w1 ⟨rfl, hb3⟩
  have X3 := Lib.hid (X1.out.below hb3)
  have HB3 := Lib.hid (HB1.out.trans (hb3.mono (by have := HB1.out.size; have := HZ.out; omega)))
  have x0 := X3.out.at_ 0
  have x1 := X3.out.at_ 1
  have x2 := X3.out.at_ 2
  have x3 := X3.out.at_ 3
  have f0 := X3.out.free 0
  have f1 := X3.out.free 1
  have f2 := X3.out.free 2
  have f3 := X3.out.free 3
  clear hb3
  go_wp2
  have X4 := Lib.hid (X3.out.put4 (.int .i64 (rQueue c wk lv).1) (.int .i64 (rQueue c wk lv).2.1) (.int .i64 (rQueue c wk lv).2.2.1) (.int .i64 (rQueue c wk lv).2.2.2))
  refine bodyPost_ret (results_cell_row (P := Tryz.prog) Tryz.results101 _ _ z 161 _ (0, 0) _ rfl X4.out Tryz.underlying161 rfl (by kernel_rfl)) rfl ?_
  refine ⟨rfl, ?_⟩
  rw [HZ.out]
  exact (((HB3.out.setCell (Nat.le_refl _) _).setCell (Nat.le_refl _) _).setCell (Nat.le_refl _) _).setCell (Nat.le_refl _) _
set_option maxRecDepth 100000 in
set_option maxHeartbeats 2000000 in
theorem lvbitmap_any (hp : PE w p m k g cap s t d hd rv ev) (hl : LayHd hd c) (hin : CfgIn c) (hb : Blk w b ty cs) {wk : Int} (h4 : cs[4]? = some (.int .i64 wk)) :
    Calls Tryz.prog 104 #[.pointer (some ⟨b, 0, none⟩), .pointer (some ⟨p, 0, none⟩)] w (GivesI (rBitmap c wk) w) := by
  have P1 := Lib.hid (hp.drewN 1)
  have HB1 := Lib.hid (below_drew (Below.refl w.heap.size w))
  obtain ⟨d0, d1, d2, d3, d4, d5, d6, d7, d8⟩ := P1.out.layS hl
  have d9 : w.drew.cell? ⟨b, 4, none⟩ = some (.int .i64 wk) := by rw [show w.drew.cell? ⟨b, 4, none⟩ = w.cell? ⟨b, 4, none⟩ from rfl, hb.at_]; exact h4
  change w.drew.cell? _ = _ at d0 d1 d2 d3 d4 d5 d6 d7 d8
  clear hp hb h4
  go_enter Tryz.func104, Tryz.ntmps104
  go_upto_region 1 with fail
  go_still_tail 8, (by kernel_rfl)
  change wpList _ _ _ _ _ w.drew
  generalize w.drew = W1 at *
  go_wp2_with fail
  (with_reducible refine (lbitmap_any hin wk).mono ?_)
  rintro e w1 ⟨rfl, hb3⟩
  have HB3 := Lib.hid (HB1.out.trans (hb3.mono HB1.out.size))
  clear hb3
  go_wp2
  go_ret
  exact ⟨rfl, HB3.out⟩
end
end Go.Proofs.YtgipddeldddbnaaGreat
