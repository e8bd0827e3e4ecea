/-
  The reference's Emit and Task.
  A line of a frame: what is known on the way, and at its end.
-/
import Derived.Test.YtllllbepnnpeeaaGreatMgAO
import Derived.Test.YtllllbepnnpeeaaGreatMgAA
namespace Go.Proofs.YtllllbepnnpeeaaGreat
open Go Go.RowKit
set_option linter.unusedSimpArgs false

/-- What Emit gives. -/
def Emitted (B p : Nat) (a : EnvA) (s : St) (es : List Ev) (rs : List Rec) (w : World) (e : Ending) (w' : World) : Prop :=
  ∃ v', e = .returned (.tuple #[]) ∧ EnvF B w' p { a with ev := v' } s es rs ∧ Fr (p :: a.ev.ownBlock.toList) w w' ∧ ∀ k, v'.ownBlock = some k → a.ev.ownBlock = some k ∨ w.heap.size ≤ k

/-- The end of Emit: the row has grown, and is stored. -/
theorem EnvF.emit {B : Nat} {w w1 w' : World} {p : Nat} {a : EnvA} {s : St} {es es' : List Ev} {rs : List Rec} (h : EnvF B w p a s es rs) (hb : Below w.heap.size w w1) {v' : Value} (hown : OwnE w' B v' es') (hg : w1.grownBy w' a.ev.ownBlock) :
    EnvF B (w'.setCell ⟨p, 20, none⟩ v') p { a with ev := v' } s es' rs ∧ Fr (p :: a.ev.ownBlock.toList) w (w'.setCell ⟨p, 20, none⟩ v') := by
  have h1 := h.below hb
  have hev := h1.ev
  have hrow : ∀ (k : Nat) (cs : Array Value) (t : TypeId), w1.heap[k]? = some (Obj.cells cs t (0, 0)) → t ≠ 189 → w'.heap[k]? = w1.heap[k]? := by
    intro k cs t hk ht
    exact hg.block k (Array.getElem?_eq_some_iff.1 hk).1 (fun e => row_apart hev hk (fun e' => ht e'.symm) k e.symm rfl)
  have hset : ∀ k, k ≠ p → (w'.setCell ⟨p, 20, none⟩ v').heap[k]? = w'.heap[k]? := fun k hk => Below.heap_setCell w' ⟨p, 20, none⟩ v' k hk
  have hblk := (h1.m.blk.of_same (hrow p _ _ h1.m.blk (by decide))).put 20 v'
  obtain ⟨cur, hcur, _⟩ := h1.m.row.blk
  have hgne := h1.m.ne
  obtain ⟨W0, e0, e1, e2⟩ := h1.cf
  have hsz := e2.size
  have hfr1 : Fr a.ev.ownBlock.toList w1 w' := ⟨hg.os, hg.tape, hg.output, hg.size, fun k hk hn => hg.block k hk (fun e => hn (by simp [← e]))⟩
  have hfr2 : Fr (p :: a.ev.ownBlock.toList) w1 (w'.setCell ⟨p, 20, none⟩ v') := (hfr1.mono (fun k hk => List.mem_cons_of_mem _ hk)).setCell (.inl (by simp)) v'
  refine ⟨⟨⟨?_, (h1.m.row.of_same ((hset a.g (fun e => hgne e.symm)).trans (hrow a.g _ _ hcur (by decide)))), h1.m.small⟩, ?_, ?_, ⟨W0, e0, e1, ?_⟩, h1.hp, h1.hg⟩, (Fr.old hb).drop hfr2 (fun x hx => .inl hx)⟩
  · simpa [ecells] using hblk
  · exact hown.same (fun k cs hk => hset k (fun e => by
      subst e
      have hb2 := h1.m.blk.of_same (hrow k _ _ h1.m.blk (by decide))
      unfold Blk at hb2
      rw [hb2] at hk
      simp only [Option.some.injEq, Obj.cells.injEq] at hk
      exact absurd hk.2.1 (by decide)))
  · exact h1.rc.same (fun k cs t hk ht => (hset k (fun e => by
      subst e
      have hb2 := h1.m.blk
      unfold Blk at hb2
      rw [hb2] at hk
      simp only [Option.some.injEq, Obj.cells.injEq] at hk
      rcases ht with rfl | rfl
      · exact absurd hk.2.1 (by decide)
      · exact absurd hk.2.1 (by decide))).trans (hrow k cs t hk (by rcases ht with rfl | rfl <;> decide)))
  · refine e2.trans (hfr2.below (by omega) (fun k hk => ?_))
    simp only [List.mem_cons, Option.mem_toList] at hk
    rcases hk with rfl | hk
    · exact h1.hp
    · exact (OwnE.lt hev k hk).1

set_option maxHeartbeats 2000000 in
theorem emit_any {B : Nat} {w : World} {p : Nat} {a : EnvA} {s : St} {es : List Ev} {rs : List Rec} (h : EnvF B w p a s es rs) (hn : es.length ≤ 900000) (kd wk tk ot lv : Int) :
    Calls Tryz.prog 114 #[.pointer (some ⟨p, 0, none⟩), .int .i64 kd, .int .i64 wk, .int .i64 tk, .int .i64 ot, .int .i64 lv] w (Emitted B p a s (es ++ [⟨kd, wk, tk, ot, lv⟩]) rs w) := by
  have H := Lib.hid h
  obtain ⟨ea, ec, hev⟩ := h.ev.form
  have c20 : w.cell? ⟨p, 20, none⟩ = some a.ev := h.m.blk.at_ 20
  rw [hev] at c20
  have HN := Lib.hid hn
  have HEV := Lib.hid hev
  have hB : B ≤ w.heap.size := by obtain ⟨W0, e0, _, e2⟩ := h.cf; have := e2.size; omega
  have hb := below_one w (.cells #[.int .i64 kd, .int .i64 wk, .int .i64 tk, .int .i64 ot, .int .i64 lv] 189)
  have HBL := Lib.hid hb
  have H5 := Lib.hid (fiveV_new w kd wk tk ot lv)
  have HO := Lib.hid ((h.below hb).ev)
  have HP := Lib.hid (show (w.alloc (.cells #[.int .i64 kd, .int .i64 wk, .int .i64 tk, .int .i64 ot, .int .i64 lv] 189)).cell? ⟨p, 20, none⟩ = some a.ev from (h.below hb).m.blk.at_ 20)
  have HPB := Lib.hid h.m.blk
  clear h hev hn hb
  go_enter Tryz.func114, Tryz.ntmps114
  go_wp2_with
    (at_builtin
     refine wpList_appV rfl _ _ rfl (HEV.out.symm) HO.out rfl H5.out (by have := HN.out; omega) (Nat.le_trans hB HBL.out.size) ?_
     intro v2 w2 hown hg ho
     obtain ⟨va, vc, rfl⟩ := hown.formN (n := es.length + 1) (by simp)
     have HW := Lib.hid hown
     have HG := Lib.hid hg
     have HOB := Lib.hid ho
     have k20 : w2.cell? ⟨p, 20, none⟩ = some (.slice ea es.length ec) := by
       have hb1 := (H.out.below HBL.out).m.blk
       rw [(World.cell?_of_block (w := w.alloc (.cells #[.int .i64 kd, .int .i64 wk, .int .i64 tk, .int .i64 ot, .int .i64 lv] 189)) (w' := w2) (hg.block p hb1.lt (fun e => row_apart HO.out hb1 (by decide) p e.symm rfl))), HP.out, HEV.out]
     have kf : w2.frozen? ⟨p, 20, none⟩ = false := by
       have hb1 := (H.out.below HBL.out).m.blk
       exact (hb1.of_same (hg.block p hb1.lt (fun e => row_apart HO.out hb1 (by decide) p e.symm rfl))).free 20
     clear hown hg ho)
  go_end0
  obtain ⟨z1, z2⟩ := H.out.emit HBL.out HW.out HG.out
  refine ⟨_, rfl, z1, z2, fun k hk => ?_⟩
  rcases HOB.out with e | e
  · exact .inl (e.symm.trans hk)
  · rw [e] at hk
    simp only [Option.some.injEq] at hk
    refine .inr ?_
    have := HBL.out.size
    omega
end Go.Proofs.YtllllbepnnpeeaaGreat

namespace Go.Proofs.YtllllbepnnpeeaaGreat
open Go Go.RowKit
set_option linter.unusedSimpArgs false

/-- What a line of a frame gives: its result; the environment's state, events and records; the frame. -/
def Line (B p g o : Nat) (pre post : List Value) (a : EnvA) (r : Res) (s' : St) (es' : List Ev) (rs' : List Rec) (f' : Fra) (w : World) (e : Ending) (w' : World) : Prop :=
  ∃ v : Value, e = .returned (.agg (rcells' r)) ∧ EnvF B w' p { a with ev := v } s' es' rs' ∧ FrameP w' g o pre post f' ∧ Fr (g :: a.S p) w w' ∧ ∀ k, v.ownBlock = some k → a.ev.ownBlock = some k ∨ w.heap.size ≤ k

/-- What is known on the way: w is the world in which the line began, W the present one; the result's block is the first new one. -/
structure LSt (B p g o : Nat) (pre post : List Value) (a : EnvA) (w : World) (v : Value) (s : St) (es : List Ev) (rs : List Rec) (f : Fra) (W : World) : Prop where
  e : EnvF B W p { a with ev := v } s es rs
  f : FrameP W g o pre post f
  r : Blk W w.heap.size 177 (rcells' .none)
  k : Fr (g :: a.S p) w W
  v : ∀ k, v.ownBlock = some k → a.ev.ownBlock = some k ∨ w.heap.size ≤ k
  lp : p < w.heap.size
  lg : a.g < w.heap.size
  lf : g < w.heap.size
  bg : B ≤ g
  bw : B ≤ w.heap.size

section
variable {B p g o : Nat} {pre post : List Value} {a : EnvA} {w W W' : World} {v : Value} {s s' : St} {es es' : List Ev} {rs rs' : List Rec} {f f' : Fra}
theorem LSt.start (he : EnvF B w p a s es rs) (hf : FrameP w g o pre post f) (hB : B ≤ g) : LSt B p g o pre post a w a.ev s es rs f (w.alloc (.cells (rcells' .none) 177)) := by
  have hb := below_one w (.cells (rcells' .none) 177)
  obtain ⟨W0, e0, _, e2⟩ := he.cf
  have := e2.size
  exact ⟨he.below hb, hf.below hb, Blk.made w _ _, (Fr.refl _ w).alloc _, fun k hk => .inl hk, he.m.blk.lt, he.m.row.lt, hf.blk.lt, hB, by omega⟩
theorem LSt.acc (h : LSt B p g o pre post a w v s es rs f W) (hm : EnvM W' p { a with ev := v } s') (hf : Fr [p, a.g] W W') : LSt B p g o pre post a w v s' es rs f W' := by
  have h1 := h.f.ne h.e.m
  have h2 := h.lp
  have h3 := h.lg
  refine ⟨h.e.acc hm hf, h.f.fr hf (by simp; exact h1), h.r.of_same (hf.block _ h.r.lt (by simp; omega)), h.k.trans (hf.mono (fun k hk => ?_)), h.v, h.lp, h.lg, h.lf, h.bg, h.bw⟩
  simp only [List.mem_cons, List.not_mem_nil, or_false] at hk
  rcases hk with rfl | rfl <;> simp [EnvA.S]
theorem LSt.below (h : LSt B p g o pre post a w v s es rs f W) (hb : Below W.heap.size W W') : LSt B p g o pre post a w v s es rs f W' :=
  ⟨h.e.below hb, h.f.below hb, h.r.below hb, h.k.trans (Fr.old hb), h.v, h.lp, h.lg, h.lf, h.bg, h.bw⟩
theorem LSt.drew (h : LSt B p g o pre post a w v s es rs f W) : LSt B p g o pre post a w v s es rs f W.drew := h.below (below_drew (Below.refl _ _))
theorem LSt.drewN (h : LSt B p g o pre post a w v s es rs f W) (n : Nat) : LSt B p g o pre post a w v s es rs f (W.drewN n) := h.below (below_drewN W n)
theorem LSt.set (h : LSt B p g o pre post a w v s es rs f W) (j : Nat) (hj : j < 18) (u : Value) (f' : Fra) (hf : fcells f' = (fcells f).set j u) : LSt B p g o pre post a w v s es rs f' (W.setCell ⟨g, o + j, none⟩ u) := by
  have h3 := h.lf
  have hfr : Fr [g] W (W.setCell ⟨g, o + j, none⟩ u) := (Fr.refl [g] W).setCell (.inl (by simp)) u
  refine ⟨h.e.other h.f.blk h.bg (by decide) (by decide) (by decide) (by decide) (by decide) hfr, h.f.put j hj u f' hf, h.r.of_same (hfr.block _ h.r.lt (by simp; omega)), h.k.trans (hfr.mono (fun k hk => ?_)), h.v, h.lp, h.lg, h.lf, h.bg, h.bw⟩
  simp only [List.mem_cons, List.not_mem_nil, or_false] at hk
  subst hk
  simp
theorem LSt.emit (h : LSt B p g o pre post a w v s es rs f W) {v' : Value} (he : EnvF B W' p { a with ev := v' } s es' rs) (hf : Fr (p :: v.ownBlock.toList) W W') (hv : ∀ k, v'.ownBlock = some k → v.ownBlock = some k ∨ W.heap.size ≤ k) : LSt B p g o pre post a w v' s es' rs f W' := by
  have h1 := h.f.ne h.e.m
  have h2 := h.lp
  have h4 := h.lf
  have hsz := h.k.size
  have hev : ∀ k, v.ownBlock = some k → k ≠ g ∧ k ≠ w.heap.size := fun k hk => ⟨row_apart h.e.ev h.f.blk (by decide) k hk, row_apart h.e.ev h.r (by decide) k hk⟩
  refine ⟨he, h.f.fr hf (fun hm => ?_), h.r.of_same (hf.block _ h.r.lt (fun hm => ?_)), ?_, fun k hk => ?_, h.lp, h.lg, h.lf, h.bg, h.bw⟩
  · simp only [List.mem_cons, Option.mem_toList] at hm
    rcases hm with rfl | hm
    · exact h1.1 rfl
    · exact (hev _ hm).1 rfl
  · simp only [List.mem_cons, Option.mem_toList] at hm
    rcases hm with hm | hm
    · omega
    · exact (hev _ hm).2 rfl
  · refine Fr.drop (T := p :: v.ownBlock.toList) h.k hf (fun x hx => ?_)
    simp only [List.mem_cons, Option.mem_toList] at hx
    rcases hx with rfl | hx
    · exact .inl (by simp [EnvA.S])
    · rcases h.v x hx with e | e
      · exact .inl (by simp [EnvA.S, e])
      · exact .inr e
  · rcases hv k hk with e | e
    · exact h.v k e
    · exact .inr (by omega)
/-- The end: the result is stored and returned. -/
theorem LSt.res (h : LSt B p g o pre post a w v s es rs f W) (r : Res) : Blk (((W.setCell ⟨w.heap.size, 0, none⟩ (.bool r.dn)).setCell ⟨w.heap.size, 1, none⟩ (.int .i64 r.cd)).setCell ⟨w.heap.size, 2, none⟩ (.int .i64 r.vl)) w.heap.size 177 (rcells' r) := by
  have hP := ((h.r.put 0 (.bool r.dn)).put 1 (.int .i64 r.cd)).put 2 (.int .i64 r.vl)
  simp only [List.setIfInBounds_toArray, List.set_cons_zero, List.set_cons_succ] at hP
  exact hP
theorem LSt.done (h : LSt B p g o pre post a w v s es rs f W) (r : Res) : Line B p g o pre post a r s es rs f w (.returned (.agg (rcells' r))) (((W.setCell ⟨w.heap.size, 0, none⟩ (.bool r.dn)).setCell ⟨w.heap.size, 1, none⟩ (.int .i64 r.cd)).setCell ⟨w.heap.size, 2, none⟩ (.int .i64 r.vl)) := by
  have h1 := h.bw
  have h4 := h.lf
  have hfr : Fr [w.heap.size] W (((W.setCell ⟨w.heap.size, 0, none⟩ (.bool r.dn)).setCell ⟨w.heap.size, 1, none⟩ (.int .i64 r.cd)).setCell ⟨w.heap.size, 2, none⟩ (.int .i64 r.vl)) :=
    (((Fr.refl [w.heap.size] W).setCell (.inl (by simp)) _).setCell (.inl (by simp)) _).setCell (.inl (by simp)) _
  refine ⟨v, rfl, h.e.other h.r (by omega) (by decide) (by decide) (by decide) (by decide) (by decide) hfr, h.f.fr hfr (by simp; omega), ?_, h.v⟩
  exact Fr.drop (T := [w.heap.size]) h.k hfr (fun x hx => by simp at hx; exact .inr (by omega))
end
end Go.Proofs.YtllllbepnnpeeaaGreat
