/-
  The reference's environment whole: its memory, events, records and configuration. No function is named.
  Rows of events of the call's own: what keeps them, an append.
  The reference's Emit and Task.
  A line of a frame: what is known on the way, and at its end.
-/
import Derived.Test.YtanbjdlaolgepaaGreatMgAC
import Derived.Test.YtanbjdlaolgepaaGreatMgAE
import Derived.Test.YtanbjdlaolgepaaGreatMgAA
namespace Go.Proofs.YtanbjdlaolgepaaGreat
open Go Go.RowKit
set_option linter.unusedSimpArgs false

/-- The environment whole: blocks from B on are its own; below B lie the lists of the configuration. -/
structure EnvF (B : Nat) (w : World) (p : Nat) (a : EnvA) (s : St) (es : List Ev) (rs : List Rec) : Prop where
  m : EnvM w p a s
  ev : OwnE w B a.ev es
  rc : OwnR w B a.rv rs
  cf : ∃ W0 : World, W0.heap.size = B ∧ Lists W0 0 a.c a.pa a.pn a.sa a.sn ∧ Below B W0 w
  hp : B ≤ p
  hg : B ≤ a.g
/-- Which blocks of an environment change. -/
def EnvA.S (a : EnvA) (p : Nat) : List Nat := p :: a.g :: (a.ev.ownBlock.toList ++ a.rv.ownBlock.toList)

section
variable {B : Nat} {w w' : World} {p : Nat} {a : EnvA} {s s' : St} {es : List Ev} {rs : List Rec}
/-- Accesses to the memory change the environment's block and its memory's alone. -/
theorem EnvF.acc (h : EnvF B w p a s es rs) (hm : EnvM w' p a s') (hf : Fr [p, a.g] w w') : EnvF B w' p a s' es rs := by
  have hne : ∀ (k : Nat) (cs : Array Value) (t : TypeId), w.heap[k]? = some (Obj.cells cs t (0, 0)) → t ≠ 53 → t ≠ 46 → w'.heap[k]? = w.heap[k]? := by
    intro k cs t hk h1 h2
    refine hf.block k (Array.getElem?_eq_some_iff.1 hk).1 (fun hmm => ?_)
    simp only [List.mem_cons, List.not_mem_nil, or_false] at hmm
    rcases hmm with rfl | rfl
    · have hb := h.m.blk
      unfold Blk at hb
      rw [hb] at hk
      simp only [Option.some.injEq, Obj.cells.injEq] at hk
      exact h1 hk.2.1.symm
    · obtain ⟨cur, hb, _⟩ := h.m.row.blk
      unfold Blk at hb
      rw [hb] at hk
      simp only [Option.some.injEq, Obj.cells.injEq] at hk
      exact h2 hk.2.1.symm
  obtain ⟨W0, h0, h1, h2⟩ := h.cf
  have hsz := h2.size
  refine ⟨hm, h.ev.same (fun k cs hk => hne k cs _ hk (by decide) (by decide)), h.rc.same (fun k cs t hk ht => hne k cs t hk (by rcases ht with rfl | rfl <;> decide) (by rcases ht with rfl | rfl <;> decide)), ⟨W0, h0, h1, ?_⟩, h.hp, h.hg⟩
  exact h2.trans (hf.below (by omega) (fun k hk => by simp at hk; have := h.hp; have := h.hg; omega))
/-- What is new changes nothing. -/
theorem EnvF.below (h : EnvF B w p a s es rs) (hb : Below w.heap.size w w') : EnvF B w' p a s es rs := by
  obtain ⟨W0, h0, h1, h2⟩ := h.cf
  have hsz := h2.size
  exact ⟨h.m.below hb, h.ev.same (fun k cs hk => hb.block k (Array.getElem?_eq_some_iff.1 hk).1), h.rc.same (fun k cs t hk _ => hb.block k (Array.getElem?_eq_some_iff.1 hk).1), ⟨W0, h0, h1, h2.trans (hb.mono (by omega))⟩, h.hp, h.hg⟩
/-- A store into a block of another type changes nothing. -/
theorem EnvF.other (h : EnvF B w p a s es rs) {g : Nat} {cs : Array Value} {t : TypeId} (hg : Blk w g t cs) (hB : B ≤ g) (h1 : t ≠ 53) (h2 : t ≠ 46) (h3 : t ≠ 163) (h4 : t ≠ 119) (h5 : t ≠ 3) (hf : Fr [g] w w') : EnvF B w' p a s es rs := by
  have hne : ∀ (k : Nat) (cs' : Array Value) (t' : TypeId), w.heap[k]? = some (Obj.cells cs' t' (0, 0)) → t' ≠ t → w'.heap[k]? = w.heap[k]? := by
    intro k cs' t' hk h1
    refine hf.block k (Array.getElem?_eq_some_iff.1 hk).1 (fun hmm => ?_)
    simp only [List.mem_cons, List.not_mem_nil, or_false] at hmm
    subst hmm
    unfold Blk at hg
    rw [hg] at hk
    simp only [Option.some.injEq, Obj.cells.injEq] at hk
    exact h1 hk.2.1.symm
  obtain ⟨cur, hb, _⟩ := h.m.row.blk
  obtain ⟨W0, e0, e1, e2⟩ := h.cf
  have hsz := e2.size
  refine ⟨h.m.of_same (hne p _ _ h.m.blk (fun e => h1 e.symm)) (hne a.g _ _ hb (fun e => h2 e.symm)), h.ev.same (fun k cs hk => hne k cs _ hk (fun e => h3 e.symm)), h.rc.same (fun k cs t' hk ht => hne k cs t' hk (by rcases ht with rfl | rfl <;> intro e <;> first | exact h4 e.symm | exact h5 e.symm)), ⟨W0, e0, e1, ?_⟩, h.hp, h.hg⟩
  exact e2.trans (hf.below (by omega) (fun k hk => by simp at hk; omega))
end
end Go.Proofs.YtanbjdlaolgepaaGreat

namespace Go.Proofs.YtanbjdlaolgepaaGreat
open Go Go.RowKit
set_option linter.unusedSimpArgs false

theorem info_event : (Tryz.prog.info? 163).map (fun i => (i.zero, i.size, i.bytes)) = some (some (.agg #[.int .i64 0, .int .i64 0, .int .i64 0, .int .i64 0, .int .i64 0]), 5, 40) := by kernel_rfl
/-- The five cells of an event. -/
def FiveV (w : World) (x : Addr) (e : Ev) : Prop := ∀ j u, (cellsV [e])[j]? = some u → w.cell? (x.add j) = some u
theorem fiveV_new (w : World) (kd wk tk ot lv : Int) : FiveV (w.alloc (.cells #[.int .i64 kd, .int .i64 wk, .int .i64 tk, .int .i64 ot, .int .i64 lv] 163)) ⟨w.heap.size, 0, none⟩ ⟨kd, wk, tk, ot, lv⟩ := by
  have hB := Blk.made w 163 #[.int .i64 kd, .int .i64 wk, .int .i64 tk, .int .i64 ot, .int .i64 lv]
  intro j u hu
  match j, hu with
  | 0, hu => exact (hB.at_ 0).trans hu
  | 1, hu => exact (hB.at_ 1).trans hu
  | 2, hu => exact (hB.at_ 2).trans hu
  | 3, hu => exact (hB.at_ 3).trans hu
  | 4, hu => exact (hB.at_ 4).trans hu
  | j + 5, hu => simp [cellsV] at hu
theorem OwnE.below {w w' : World} {B : Nat} {v : Value} {es : List Ev} (h : OwnE w B v es) (hb : Below w.heap.size w w') : OwnE w' B v es := by
  refine ⟨h.1, ?_⟩
  rcases h.2 with h2 | ⟨g, cap, cur, rfl, h2, hg, rest⟩
  · exact .inl h2
  · exact .inr ⟨g, cap, cur, rfl, h2, (hb.block g (Array.getElem?_eq_some_iff.1 hg).1).trans hg, rest⟩
theorem OwnE.lt {w : World} {B : Nat} {v : Value} {es : List Ev} (h : OwnE w B v es) : ∀ k, v.ownBlock = some k → B ≤ k ∧ k < w.heap.size := World.ownsRow.lt h
theorem OwnE.form {w : World} {B : Nat} {v : Value} {es : List Ev} (h : OwnE w B v es) : ∃ a c, v = .slice a es.length c := by
  rcases h.2 with ⟨rfl, h2⟩ | ⟨g, cap, cur, rfl, _⟩
  · rw [h2]
    exact ⟨_, _, rfl⟩
  · exact ⟨_, _, rfl⟩
theorem OwnE.nil (w : World) (B : Nat) : OwnE w B (.slice none 0 0) [] := World.ownsRow_nil w B _ _
theorem wpList_appV {w : World} {ops : Array Oper} {rest : List Oper} {o : Oper} {a : Act} {Q : Exit → Act → World → Prop} (hgd : o.guard = none) (s x : Operand)
    (ho : o.op = .call { callee := .builtin .append, args := #[s, x], argTypes := #[41, 41] })
    {base : Nat} {v : Value} {l : List Ev} (hs : a.eval s = v) (hown : OwnE w base v l) {ad : Addr} {c : Nat} {e : Ev} (hx : a.eval x = .slice (some ad) 1 c) (h5 : FiveV w ad e) (hn : l.length + 1 ≤ 1000000) (hb : base ≤ w.heap.size)
    (h : ∀ v' w', OwnE w' base v' (l ++ [e]) → w.grownBy w' v.ownBlock → (v'.ownBlock = v.ownBlock ∨ v'.ownBlock = some w.heap.size) → wpList Tryz.prog ops Q rest (a.put o.dst v') w') :
    wpList Tryz.prog ops Q (o :: rest) a w := by
  obtain ⟨i0, hi, hz0, hz1, hz2⟩ := info_parts info_event
  refine wpList_append_own_at w hgd s x 41 ho base 163 i0 _ 5 40 Tryz.underlying41 hi hz0 hz1 hz2 rfl (by omega) v l.length (cellsV l) hs hown ad 1 c (cellsV [e]) hx rfl h5 (cellsV_one [e]) (by unfold maxLen; omega) (by omega) hb ?_
  intro v' w' h1 h2 _ h4
  refine h v' w' ?_ h2 h4
  unfold OwnE
  rw [cellsV_append, List.length_append]
  exact h1
theorem OwnE.formN {w : World} {B : Nat} {v : Value} {es : List Ev} {n : Nat} (h : OwnE w B v es) (hn : es.length = n) : ∃ a c, v = .slice a n c := by
  subst hn
  exact h.form
end Go.Proofs.YtanbjdlaolgepaaGreat

namespace Go.Proofs.YtanbjdlaolgepaaGreat
open Go Go.RowKit
set_option linter.unusedSimpArgs false

/-- What Emit gives. -/
def Emitted (B p : Nat) (a : EnvA) (s : St) (es : List Ev) (rs : List Rec) (w : World) (e : Ending) (w' : World) : Prop :=
  ∃ v', e = .returned (.tuple #[]) ∧ EnvF B w' p { a with ev := v' } s es rs ∧ Fr (p :: a.ev.ownBlock.toList) w w' ∧ ∀ k, v'.ownBlock = some k → a.ev.ownBlock = some k ∨ w.heap.size ≤ k

/-- The end of Emit: the row has grown, and is stored. -/
theorem EnvF.emit {B : Nat} {w w1 w' : World} {p : Nat} {a : EnvA} {s : St} {es es' : List Ev} {rs : List Rec} (h : EnvF B w p a s es rs) (hb : Below w.heap.size w w1) {v' : Value} (hown : OwnE w' B v' es') (hg : w1.grownBy w' a.ev.ownBlock) :
    EnvF B (w'.setCell ⟨p, 20, none⟩ v') p { a with ev := v' } s es' rs ∧ Fr (p :: a.ev.ownBlock.toList) w (w'.setCell ⟨p, 20, none⟩ v') := by
  have h1 := h.below hb
  have hev := h1.ev
  have hrow : ∀ (k : Nat) (cs : Array Value) (t : TypeId), w1.heap[k]? = some (Obj.cells cs t (0, 0)) → t ≠ 163 → w'.heap[k]? = w1.heap[k]? := by
    intro k cs t hk ht
    exact hg.block k (Array.getElem?_eq_some_iff.1 hk).1 (fun e => row_apart hev hk (fun e' => ht e'.symm) k e.symm rfl)
  have hset : ∀ k, k ≠ p → (w'.setCell ⟨p, 20, none⟩ v').heap[k]? = w'.heap[k]? := fun k hk => Below.heap_setCell w' ⟨p, 20, none⟩ v' k hk
  have hblk := (h1.m.blk.of_same (hrow p _ _ h1.m.blk (by decide))).put 20 v'
  obtain ⟨cur, hcur, _⟩ := h1.m.row.blk
  have hgne := h1.m.ne
  obtain ⟨W0, e0, e1, e2⟩ := h1.cf
  have hsz := e2.size
  have hfr1 : Fr a.ev.ownBlock.toList w1 w' := ⟨hg.os, hg.tape, hg.output, hg.size, fun k hk hn => hg.block k hk (fun e => hn (by simp [← e]))⟩
  have hfr2 : Fr (p :: a.ev.ownBlock.toList) w1 (w'.setCell ⟨p, 20, none⟩ v') := (hfr1.mono (fun k hk => List.mem_cons_of_mem _ hk)).setCell (.inl (by simp)) v'
  refine ⟨⟨⟨?_, (h1.m.row.of_same ((hset a.g (fun e => hgne e.symm)).trans (hrow a.g _ _ hcur (by decide)))), h1.m.small⟩, ?_, ?_, ⟨W0, e0, e1, ?_⟩, h1.hp, h1.hg⟩, (Fr.old hb).drop hfr2 (fun x hx => .inl hx)⟩
  · simpa [ecells] using hblk
  · exact hown.same (fun k cs hk => hset k (fun e => by
      subst e
      have hb2 := h1.m.blk.of_same (hrow k _ _ h1.m.blk (by decide))
      unfold Blk at hb2
      rw [hb2] at hk
      simp only [Option.some.injEq, Obj.cells.injEq] at hk
      exact absurd hk.2.1 (by decide)))
  · exact h1.rc.same (fun k cs t hk ht => (hset k (fun e => by
      subst e
      have hb2 := h1.m.blk
      unfold Blk at hb2
      rw [hb2] at hk
      simp only [Option.some.injEq, Obj.cells.injEq] at hk
      rcases ht with rfl | rfl
      · exact absurd hk.2.1 (by decide)
      · exact absurd hk.2.1 (by decide))).trans (hrow k cs t hk (by rcases ht with rfl | rfl <;> decide)))
  · refine e2.trans (hfr2.below (by omega) (fun k hk => ?_))
    simp only [List.mem_cons, Option.mem_toList] at hk
    rcases hk with rfl | hk
    · exact h1.hp
    · exact (OwnE.lt hev k hk).1

set_option maxHeartbeats 2000000 in
theorem emit_any {B : Nat} {w : World} {p : Nat} {a : EnvA} {s : St} {es : List Ev} {rs : List Rec} (h : EnvF B w p a s es rs) (hn : es.length ≤ 900000) (kd wk tk ot lv : Int) :
    Calls Tryz.prog 100 #[.pointer (some ⟨p, 0, none⟩), .int .i64 kd, .int .i64 wk, .int .i64 tk, .int .i64 ot, .int .i64 lv] w (Emitted B p a s (es ++ [⟨kd, wk, tk, ot, lv⟩]) rs w) := by
  have H := Lib.hid h
  obtain ⟨ea, ec, hev⟩ := h.ev.form
  have c20 : w.cell? ⟨p, 20, none⟩ = some a.ev := h.m.blk.at_ 20
  rw [hev] at c20
  have HN := Lib.hid hn
  have HEV := Lib.hid hev
  have hB : B ≤ w.heap.size := by obtain ⟨W0, e0, _, e2⟩ := h.cf; have := e2.size; omega
  have hb := below_one w (.cells #[.int .i64 kd, .int .i64 wk, .int .i64 tk, .int .i64 ot, .int .i64 lv] 163)
  have HBL := Lib.hid hb
  have H5 := Lib.hid (fiveV_new w kd wk tk ot lv)
  have HO := Lib.hid ((h.below hb).ev)
  have HP := Lib.hid (show (w.alloc (.cells #[.int .i64 kd, .int .i64 wk, .int .i64 tk, .int .i64 ot, .int .i64 lv] 163)).cell? ⟨p, 20, none⟩ = some a.ev from (h.below hb).m.blk.at_ 20)
  have HPB := Lib.hid h.m.blk
  clear h hev hn hb
  go_enter Tryz.func100, Tryz.ntmps100
  go_wp2_with
    (at_builtin
     refine wpList_appV rfl _ _ rfl (HEV.out.symm) HO.out rfl H5.out (by have := HN.out; omega) (Nat.le_trans hB HBL.out.size) ?_
     intro v2 w2 hown hg ho
     obtain ⟨va, vc, rfl⟩ := hown.formN (n := es.length + 1) (by simp)
     have HW := Lib.hid hown
     have HG := Lib.hid hg
     have HOB := Lib.hid ho
     have k20 : w2.cell? ⟨p, 20, none⟩ = some (.slice ea es.length ec) := by
       have hb1 := (H.out.below HBL.out).m.blk
       rw [(World.cell?_of_block (w := w.alloc (.cells #[.int .i64 kd, .int .i64 wk, .int .i64 tk, .int .i64 ot, .int .i64 lv] 163)) (w' := w2) (hg.block p hb1.lt (fun e => row_apart HO.out hb1 (by decide) p e.symm rfl))), HP.out, HEV.out]
     have kf : w2.frozen? ⟨p, 20, none⟩ = false := by
       have hb1 := (H.out.below HBL.out).m.blk
       exact (hb1.of_same (hg.block p hb1.lt (fun e => row_apart HO.out hb1 (by decide) p e.symm rfl))).free 20
     clear hown hg ho)
  go_end0
  obtain ⟨z1, z2⟩ := H.out.emit HBL.out HW.out HG.out
  refine ⟨_, rfl, z1, z2, fun k hk => ?_⟩
  rcases HOB.out with e | e
  · exact .inl (e.symm.trans hk)
  · rw [e] at hk
    simp only [Option.some.injEq] at hk
    refine .inr ?_
    have := HBL.out.size
    omega
end Go.Proofs.YtanbjdlaolgepaaGreat

namespace Go.Proofs.YtanbjdlaolgepaaGreat
open Go Go.RowKit
set_option linter.unusedSimpArgs false

/-- What a line of a frame gives: its result; the environment's state, events and records; the frame. -/
def Line (B p g o : Nat) (pre post : List Value) (a : EnvA) (r : Res) (s' : St) (es' : List Ev) (rs' : List Rec) (f' : Fra) (w : World) (e : Ending) (w' : World) : Prop :=
  ∃ v : Value, e = .returned (.agg (rcells' r)) ∧ EnvF B w' p { a with ev := v } s' es' rs' ∧ FrameP w' g o pre post f' ∧ Fr (g :: a.S p) w w' ∧ ∀ k, v.ownBlock = some k → a.ev.ownBlock = some k ∨ w.heap.size ≤ k

/-- What is known on the way: w is the world in which the line began, W the present one; the result's block is the first new one. -/
structure LSt (B p g o : Nat) (pre post : List Value) (a : EnvA) (w : World) (v : Value) (s : St) (es : List Ev) (rs : List Rec) (f : Fra) (W : World) : Prop where
  e : EnvF B W p { a with ev := v } s es rs
  f : FrameP W g o pre post f
  r : Blk W w.heap.size 140 (rcells' .none)
  k : Fr (g :: a.S p) w W
  v : ∀ k, v.ownBlock = some k → a.ev.ownBlock = some k ∨ w.heap.size ≤ k
  lp : p < w.heap.size
  lg : a.g < w.heap.size
  lf : g < w.heap.size
  bg : B ≤ g
  bw : B ≤ w.heap.size

section
variable {B p g o : Nat} {pre post : List Value} {a : EnvA} {w W W' : World} {v : Value} {s s' : St} {es es' : List Ev} {rs rs' : List Rec} {f f' : Fra}
theorem LSt.start (he : EnvF B w p a s es rs) (hf : FrameP w g o pre post f) (hB : B ≤ g) : LSt B p g o pre post a w a.ev s es rs f (w.alloc (.cells (rcells' .none) 140)) := by
  have hb := below_one w (.cells (rcells' .none) 140)
  obtain ⟨W0, e0, _, e2⟩ := he.cf
  have := e2.size
  exact ⟨he.below hb, hf.below hb, Blk.made w _ _, (Fr.refl _ w).alloc _, fun k hk => .inl hk, he.m.blk.lt, he.m.row.lt, hf.blk.lt, hB, by omega⟩
theorem LSt.acc (h : LSt B p g o pre post a w v s es rs f W) (hm : EnvM W' p { a with ev := v } s') (hf : Fr [p, a.g] W W') : LSt B p g o pre post a w v s' es rs f W' := by
  have h1 := h.f.ne h.e.m
  have h2 := h.lp
  have h3 := h.lg
  refine ⟨h.e.acc hm hf, h.f.fr hf (by simp; exact h1), h.r.of_same (hf.block _ h.r.lt (by simp; omega)), h.k.trans (hf.mono (fun k hk => ?_)), h.v, h.lp, h.lg, h.lf, h.bg, h.bw⟩
  simp only [List.mem_cons, List.not_mem_nil, or_false] at hk
  rcases hk with rfl | rfl <;> simp [EnvA.S]
theorem LSt.below (h : LSt B p g o pre post a w v s es rs f W) (hb : Below W.heap.size W W') : LSt B p g o pre post a w v s es rs f W' :=
  ⟨h.e.below hb, h.f.below hb, h.r.below hb, h.k.trans (Fr.old hb), h.v, h.lp, h.lg, h.lf, h.bg, h.bw⟩
theorem LSt.drew (h : LSt B p g o pre post a w v s es rs f W) : LSt B p g o pre post a w v s es rs f W.drew := h.below (below_drew (Below.refl _ _))
theorem LSt.drewN (h : LSt B p g o pre post a w v s es rs f W) (n : Nat) : LSt B p g o pre post a w v s es rs f (W.drewN n) := h.below (below_drewN W n)
theorem LSt.set (h : LSt B p g o pre post a w v s es rs f W) (j : Nat) (hj : j < 18) (u : Value) (f' : Fra) (hf : fcells f' = (fcells f).set j u) : LSt B p g o pre post a w v s es rs f' (W.setCell ⟨g, o + j, none⟩ u) := by
  have h3 := h.lf
  have hfr : Fr [g] W (W.setCell ⟨g, o + j, none⟩ u) := (Fr.refl [g] W).setCell (.inl (by simp)) u
  refine ⟨h.e.other h.f.blk h.bg (by decide) (by decide) (by decide) (by decide) (by decide) hfr, h.f.put j hj u f' hf, h.r.of_same (hfr.block _ h.r.lt (by simp; omega)), h.k.trans (hfr.mono (fun k hk => ?_)), h.v, h.lp, h.lg, h.lf, h.bg, h.bw⟩
  simp only [List.mem_cons, List.not_mem_nil, or_false] at hk
  subst hk
  simp
theorem LSt.emit (h : LSt B p g o pre post a w v s es rs f W) {v' : Value} (he : EnvF B W' p { a with ev := v' } s es' rs) (hf : Fr (p :: v.ownBlock.toList) W W') (hv : ∀ k, v'.ownBlock = some k → v.ownBlock = some k ∨ W.heap.size ≤ k) : LSt B p g o pre post a w v' s es' rs f W' := by
  have h1 := h.f.ne h.e.m
  have h2 := h.lp
  have h4 := h.lf
  have hsz := h.k.size
  have hev : ∀ k, v.ownBlock = some k → k ≠ g ∧ k ≠ w.heap.size := fun k hk => ⟨row_apart h.e.ev h.f.blk (by decide) k hk, row_apart h.e.ev h.r (by decide) k hk⟩
  refine ⟨he, h.f.fr hf (fun hm => ?_), h.r.of_same (hf.block _ h.r.lt (fun hm => ?_)), ?_, fun k hk => ?_, h.lp, h.lg, h.lf, h.bg, h.bw⟩
  · simp only [List.mem_cons, Option.mem_toList] at hm
    rcases hm with rfl | hm
    · exact h1.1 rfl
    · exact (hev _ hm).1 rfl
  · simp only [List.mem_cons, Option.mem_toList] at hm
    rcases hm with hm | hm
    · omega
    · exact (hev _ hm).2 rfl
  · refine Fr.drop (T := p :: v.ownBlock.toList) h.k hf (fun x hx => ?_)
    simp only [List.mem_cons, Option.mem_toList] at hx
    rcases hx with rfl | hx
    · exact .inl (by simp [EnvA.S])
    · rcases h.v x hx with e | e
      · exact .inl (by simp [EnvA.S, e])
      · exact .inr e
  · rcases hv k hk with e | e
    · exact h.v k e
    · exact .inr (by omega)
/-- The end: the result is stored and returned. -/
theorem LSt.res (h : LSt B p g o pre post a w v s es rs f W) (r : Res) : Blk (((W.setCell ⟨w.heap.size, 0, none⟩ (.bool r.dn)).setCell ⟨w.heap.size, 1, none⟩ (.int .i64 r.cd)).setCell ⟨w.heap.size, 2, none⟩ (.int .i64 r.vl)) w.heap.size 140 (rcells' r) := by
  have hP := ((h.r.put 0 (.bool r.dn)).put 1 (.int .i64 r.cd)).put 2 (.int .i64 r.vl)
  simp only [List.setIfInBounds_toArray, List.set_cons_zero, List.set_cons_succ] at hP
  exact hP
theorem LSt.done (h : LSt B p g o pre post a w v s es rs f W) (r : Res) : Line B p g o pre post a r s es rs f w (.returned (.agg (rcells' r))) (((W.setCell ⟨w.heap.size, 0, none⟩ (.bool r.dn)).setCell ⟨w.heap.size, 1, none⟩ (.int .i64 r.cd)).setCell ⟨w.heap.size, 2, none⟩ (.int .i64 r.vl)) := by
  have h1 := h.bw
  have h4 := h.lf
  have hfr : Fr [w.heap.size] W (((W.setCell ⟨w.heap.size, 0, none⟩ (.bool r.dn)).setCell ⟨w.heap.size, 1, none⟩ (.int .i64 r.cd)).setCell ⟨w.heap.size, 2, none⟩ (.int .i64 r.vl)) :=
    (((Fr.refl [w.heap.size] W).setCell (.inl (by simp)) _).setCell (.inl (by simp)) _).setCell (.inl (by simp)) _
  refine ⟨v, rfl, h.e.other h.r (by omega) (by decide) (by decide) (by decide) (by decide) (by decide) hfr, h.f.fr hfr (by simp; omega), ?_, h.v⟩
  exact Fr.drop (T := [w.heap.size]) h.k hfr (fun x hx => by simp at hx; exact .inr (by omega))
end
end Go.Proofs.YtanbjdlaolgepaaGreat
