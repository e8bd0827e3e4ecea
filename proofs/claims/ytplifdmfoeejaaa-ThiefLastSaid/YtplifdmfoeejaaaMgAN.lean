/-
  What the laws about an owner and thieves alone carry along. (Written by wip/gen_oaw.py.)
  Stage 9: awake. (Written by wip/gen_oaw.py.)
  Events as plain data.
  Rows of events of the call's own: what keeps them, an append.
  Slices of events that came in.
-/
import Derived.Test.YtplifdmfoeejaaaOwM
import Derived.Test.YtplifdmfoeejaaaMgAA
import Derived.Test.YtplifdmfoeejaaaMgAD
namespace Go.Proofs.Ytplifdmfoeejaaa
open Go Go.RowKit Go.Shelf
set_option linter.unusedSimpArgs false
set_option linter.unusedVariables false

theorem runS_N {stp : St → Fra → St × Fra × Res} {ok : Fra → Prop} (hk : Keeps stp ok) : ∀ (k : Nat) {s s' : St} {f : Fra} {r : Res} {N : Nat}, s.N → ok f → runS stp k s f = some (s', r, N) → s'.N
  | 0, _, _, _, _, _, _, _, h => by simp [runS] at h
  | k + 1, s, s', f, r, N, hn, ho, h => by
    cases hd : (stp s f).2.2.dn with
    | true =>
      obtain ⟨e, _, _⟩ := runS_end h hd
      rw [← e]
      exact hk.n s f hn ho
    | false =>
      obtain ⟨M, e, _⟩ := runS_on h hd
      exact runS_N hk k (hk.n s f hn ho) (hk.o s f hn ho hd) e

theorem pushOk1 (n : Int) (hn : n ≤ 100) (v : Int) : PushOk (fra1 0 0 1 2 n v) := ⟨.inl rfl, Int.le_refl _, Int.le_refl _, by show n ≤ _; omega⟩
theorem popOk1 (n : Int) (hn : n ≤ 100) : PopOk (fra1 1 0 1 2 n 0) := ⟨.inl rfl, Int.le_refl _, Int.le_refl _, by show n ≤ _; omega⟩

/-- What a law about an owner alone carries along: the program's environment, its deque's value (block qb); all of it is newer than w0. -/
structure AW (w0 : World) (p m k g cap : Nat) (hd : List Value) (rv ev : Value) (t d : Int) (qb n : Nat) (s : St) (w : World) : Prop where
  e : PE w p m k g cap s t d hd rv ev
  q : Blk w qb 25 (qcells 0 1 2 n)
  n : s.N
  b : Below w0.heap.size w0 w
  lo : w0.heap.size ≤ p ∧ w0.heap.size ≤ m ∧ w0.heap.size ≤ k ∧ w0.heap.size ≤ g ∧ w0.heap.size ≤ qb
section
variable {w0 w w' : World} {p m k g cap : Nat} {hd : List Value} {rv ev : Value} {t d : Int} {qb n : Nat} {s s' : St}
theorem AW.below (h : AW w0 p m k g cap hd rv ev t d qb n s w) (hb : Below w.heap.size w w') : AW w0 p m k g cap hd rv ev t d qb n s w' :=
  ⟨h.e.below hb, h.q.below hb, h.n, h.b.trans (hb.mono h.b.size), h.lo⟩
theorem AW.done (h : AW w0 p m k g cap hd rv ev t d qb n s w) {x : Nat} {ty : TypeId} {post : List Value} {f : Fra} {cd vl : Int} (ho : OB w x ty post f cd vl) (ht : ty ≠ 25) (hx : w0.heap.size ≤ x) (hp : PE w' p m k g cap s' t d hd rv ev) (hf : Fr [m, g, x] w w') (hn : s'.N) : AW w0 p m k g cap hd rv ev t d qb n s' w' := by
  obtain ⟨cur, hg, _⟩ := h.e.mem.row.blk
  refine ⟨hp, h.q.of_same (hf.block qb h.q.lt ?_), hn, below_of_fr h.b hf (fun y hy => ?_), h.lo⟩
  · simp only [List.mem_cons, List.not_mem_nil, or_false, not_or]
    exact ⟨h.q.apart h.e.mem.blk (by decide), h.q.apart hg (by decide), h.q.apart ho.blk (fun e => ht e.symm)⟩
  · simp only [List.mem_cons, List.not_mem_nil, or_false] at hy
    rcases hy with rfl | rfl | rfl
    · exact h.lo.2.1
    · exact h.lo.2.2.2.1
    · exact hx
end
theorem dq_new : DQ (St.new 4) 2 0 [] := ⟨by simp [St.new], by decide, by decide, by simp, fun i hi => by simp at hi, by omega⟩
theorem new_N (n : Nat) : (St.new n).N := N_of (fun j hj => by
  have : (St.new n).X.getD j 0 = 0 := by
    show (List.replicate n (0 : Int)).getD j 0 = 0
    rw [List.getD_eq_getElem?_getD, List.getElem?_replicate]
    split <;> rfl
  omega)

theorem Row.inNN {X : List Int} (h : ∀ x, x ∈ X → 0 ≤ x) {s : St} (e : s.X = X) : s.N := N_of (fun j hj => by
  rw [e] at hj ⊢
  rw [List.getD_eq_getElem?_getD, List.getElem?_eq_getElem hj]
  exact h _ (List.getElem_mem hj))
end Go.Proofs.Ytplifdmfoeejaaa

namespace Go.Proofs.Ytplifdmfoeejaaa
open Go Go.RowKit Go.Shelf
set_option linter.unusedSimpArgs false
set_option linter.unusedVariables false

set_option maxRecDepth 100000 in
set_option maxHeartbeats 16000000 in
theorem awake9_any (w : World) :
    Calls Try.prog 11 #[] w fun e w' => e = .returned (.bool true) ∧ Below w.heap.size w w' := by
  obtain ⟨s1, r1, d1⟩ := dq_new.push (by simp) (by simp) 5
  obtain ⟨s2, r2, d2⟩ := d1.push (by simp) (by simp) 6
  obtain ⟨s3, r3, d3⟩ := d2.full (by simp) 7
  have e5 : IntKind.u64.wrap 5 = 5 := by decide
  have e6 : IntKind.u64.wrap 6 = 6 := by decide
  rw [e5, e6] at d3
  obtain ⟨s4, r4, d4⟩ := DQ.pop (l := [5]) (v := 6) d3 (by simp) (by simp)
  obtain ⟨s5, r5, d5⟩ := d4.last (by simp)
  obtain ⟨s6, r6, d6⟩ := d5.none
  have i5 : IntKind.i64.wrap 5 = 5 := by decide
  have i6 : IntKind.i64.wrap 6 = 6 := by decide
  rw [i6] at r4
  rw [i5] at r5
  have n1 := runS_N push_keeps 20 (new_N 4) (pushOk1 2 (by omega) 5) r1
  have n2 := runS_N push_keeps 20 n1 (pushOk1 2 (by omega) 6) r2
  have n3 := runS_N push_keeps 20 n2 (pushOk1 2 (by omega) 7) r3
  have n4 := runS_N pop_keeps 20 n3 (popOk1 2 (by omega)) r4
  have n5 := runS_N pop_keeps 20 n4 (popOk1 2 (by omega)) r5
  have n6 := runS_N pop_keeps 20 n5 (popOk1 2 (by omega)) r6
  have HR := Lib.hid (And.intro r1 (And.intro r2 (And.intro r3 (And.intro r4 (And.intro r5 r6)))))
  have HN := Lib.hid (And.intro n1 (And.intro n2 (And.intro n3 (And.intro n4 (And.intro n5 n6)))))
  clear r1 r2 r3 r4 r5 r6 n1 n2 n3 n4 n5 n6 d1 d2 d3 d4 d5 d6 e5 e6 i5 i6
  go_enter Try.func11, Try.ntmps11
  go_wp2_with fail
  (with_reducible refine (pbare_any 4 w).mono ?_)
  rintro e w1 ⟨p, m, k, g, rfl, hp, hb, l1, l2, l3, l4⟩
  have e1 : sizeS 4 = 4 := rfl
  rw [e1] at hp
  have h20 := hp.at20
  have HP := Lib.hid hp
  have HB := Lib.hid hb
  have HL := Lib.hid (And.intro l1 (And.intro l2 (And.intro l3 l4)))
  clear hb e1 hp l1 l2 l3 l4
  go_wp2_with fail
  (with_reducible refine (queue_any 2 _).mono ?_)
  rintro e w2 ⟨rfl, hb2⟩
  have HB2 := Lib.hid (HB.out.trans (hb2.mono HB.out.size))
  have HP2 := Lib.hid (HP.out.below hb2)
  clear hb2 h20 HP HB
  go_upto_region 5 with fail
  have A0 := Lib.hid (show AW w p m k g 4 hd0 (.slice none 0 0) (.slice none 0 0) 0 0 w2.heap.size 2 (St.new 4) (w2.alloc (.cells (qcells 0 1 2 2) 25)) from ⟨HP2.out.alloc _, Blk.made w2 _ _, new_N 4, HB2.out.alloc HB2.out.size _, HL.out.1, HL.out.2.1, HL.out.2.2.1, HL.out.2.2.2, HB2.out.size⟩)
  generalize w2.alloc (.cells (qcells 0 1 2 2) 25) = V0 at *
  generalize w2.heap.size = qb at *
  clear HP2 HB2 HL
  have q0 : V0.cell? ⟨qb, 0, none⟩ = some (.int .i64 0) := A0.out.q.at_ 0
  have q1 : V0.cell? ⟨qb, 1, none⟩ = some (.int .i64 1) := A0.out.q.at_ 1
  have q2 : V0.cell? ⟨qb, 2, none⟩ = some (.int .i64 2) := A0.out.q.at_ 2
  have q3 : V0.cell? ⟨qb, 3, none⟩ = some (.int .i64 2) := A0.out.q.at_ 3
  go_wp2_with fail
  (with_reducible refine (oPush_any 0 1 2 2 5 _).mono ?_)
  rintro e u0 ⟨x, rfl, ho, hx, hb⟩
  have C0 := Lib.hid (A0.out.below hb)
  have O0 := Lib.hid (And.intro ho (show w.heap.size ≤ x by have := A0.out.b.size; omega))
  clear ho hx hb q0 q1 q2 q3 A0
  go_wp2_with fail
  (with_reducible refine (alone_pusher C0.out.e O0.out.1 C0.out.n (pushOk1 2 (by omega) 5) HR.out.1).mono ?_)
  rintro e V1 ⟨rfl, hp, hf⟩
  have A1 := Lib.hid (C0.out.done O0.out.1 (by decide) O0.out.2 hp hf HN.out.1)
  clear hp hf C0 O0
  have q0 : V1.cell? ⟨qb, 0, none⟩ = some (.int .i64 0) := A1.out.q.at_ 0
  have q1 : V1.cell? ⟨qb, 1, none⟩ = some (.int .i64 1) := A1.out.q.at_ 1
  have q2 : V1.cell? ⟨qb, 2, none⟩ = some (.int .i64 2) := A1.out.q.at_ 2
  have q3 : V1.cell? ⟨qb, 3, none⟩ = some (.int .i64 2) := A1.out.q.at_ 3
  go_wp2_with fail
  (with_reducible refine (oPush_any 0 1 2 2 6 _).mono ?_)
  rintro e u1 ⟨x, rfl, ho, hx, hb⟩
  have C1 := Lib.hid (A1.out.below hb)
  have O1 := Lib.hid (And.intro ho (show w.heap.size ≤ x by have := A1.out.b.size; omega))
  clear ho hx hb q0 q1 q2 q3 A1
  go_wp2_with fail
  (with_reducible refine (alone_pusher C1.out.e O1.out.1 C1.out.n (pushOk1 2 (by omega) 6) HR.out.2.1).mono ?_)
  rintro e V2 ⟨rfl, hp, hf⟩
  have A2 := Lib.hid (C1.out.done O1.out.1 (by decide) O1.out.2 hp hf HN.out.2.1)
  clear hp hf C1 O1
  have q0 : V2.cell? ⟨qb, 0, none⟩ = some (.int .i64 0) := A2.out.q.at_ 0
  have q1 : V2.cell? ⟨qb, 1, none⟩ = some (.int .i64 1) := A2.out.q.at_ 1
  have q2 : V2.cell? ⟨qb, 2, none⟩ = some (.int .i64 2) := A2.out.q.at_ 2
  have q3 : V2.cell? ⟨qb, 3, none⟩ = some (.int .i64 2) := A2.out.q.at_ 3
  go_wp2_with fail
  (with_reducible refine (oPush_any 0 1 2 2 7 _).mono ?_)
  rintro e u2 ⟨x, rfl, ho, hx, hb⟩
  have C2 := Lib.hid (A2.out.below hb)
  have O2 := Lib.hid (And.intro ho (show w.heap.size ≤ x by have := A2.out.b.size; omega))
  clear ho hx hb q0 q1 q2 q3 A2
  go_wp2_with fail
  (with_reducible refine (alone_pusher C2.out.e O2.out.1 C2.out.n (pushOk1 2 (by omega) 7) HR.out.2.2.1).mono ?_)
  rintro e V3 ⟨rfl, hp, hf⟩
  have A3 := Lib.hid (C2.out.done O2.out.1 (by decide) O2.out.2 hp hf HN.out.2.2.1)
  clear hp hf C2 O2
  have q0 : V3.cell? ⟨qb, 0, none⟩ = some (.int .i64 0) := A3.out.q.at_ 0
  have q1 : V3.cell? ⟨qb, 1, none⟩ = some (.int .i64 1) := A3.out.q.at_ 1
  have q2 : V3.cell? ⟨qb, 2, none⟩ = some (.int .i64 2) := A3.out.q.at_ 2
  have q3 : V3.cell? ⟨qb, 3, none⟩ = some (.int .i64 2) := A3.out.q.at_ 3
  go_wp2_with fail
  (with_reducible refine (oPop_any 0 1 2 2 _).mono ?_)
  rintro e u3 ⟨x, rfl, ho, hx, hb⟩
  have C3 := Lib.hid (A3.out.below hb)
  have O3 := Lib.hid (And.intro ho (show w.heap.size ≤ x by have := A3.out.b.size; omega))
  clear ho hx hb q0 q1 q2 q3 A3
  go_wp2_with fail
  (with_reducible refine (alone_popper C3.out.e O3.out.1 C3.out.n (popOk1 2 (by omega)) HR.out.2.2.2.1).mono ?_)
  rintro e V4 ⟨rfl, hp, hf⟩
  have A4 := Lib.hid (C3.out.done O3.out.1 (by decide) O3.out.2 hp hf HN.out.2.2.2.1)
  clear hp hf C3 O3
  have q0 : V4.cell? ⟨qb, 0, none⟩ = some (.int .i64 0) := A4.out.q.at_ 0
  have q1 : V4.cell? ⟨qb, 1, none⟩ = some (.int .i64 1) := A4.out.q.at_ 1
  have q2 : V4.cell? ⟨qb, 2, none⟩ = some (.int .i64 2) := A4.out.q.at_ 2
  have q3 : V4.cell? ⟨qb, 3, none⟩ = some (.int .i64 2) := A4.out.q.at_ 3
  go_wp2_with fail
  (with_reducible refine (oPop_any 0 1 2 2 _).mono ?_)
  rintro e u4 ⟨x, rfl, ho, hx, hb⟩
  have C4 := Lib.hid (A4.out.below hb)
  have O4 := Lib.hid (And.intro ho (show w.heap.size ≤ x by have := A4.out.b.size; omega))
  clear ho hx hb q0 q1 q2 q3 A4
  go_wp2_with fail
  (with_reducible refine (alone_popper C4.out.e O4.out.1 C4.out.n (popOk1 2 (by omega)) HR.out.2.2.2.2.1).mono ?_)
  rintro e V5 ⟨rfl, hp, hf⟩
  have A5 := Lib.hid (C4.out.done O4.out.1 (by decide) O4.out.2 hp hf HN.out.2.2.2.2.1)
  clear hp hf C4 O4
  have q0 : V5.cell? ⟨qb, 0, none⟩ = some (.int .i64 0) := A5.out.q.at_ 0
  have q1 : V5.cell? ⟨qb, 1, none⟩ = some (.int .i64 1) := A5.out.q.at_ 1
  have q2 : V5.cell? ⟨qb, 2, none⟩ = some (.int .i64 2) := A5.out.q.at_ 2
  have q3 : V5.cell? ⟨qb, 3, none⟩ = some (.int .i64 2) := A5.out.q.at_ 3
  go_wp2_with fail
  (with_reducible refine (oPop_any 0 1 2 2 _).mono ?_)
  rintro e u5 ⟨x, rfl, ho, hx, hb⟩
  have C5 := Lib.hid (A5.out.below hb)
  have O5 := Lib.hid (And.intro ho (show w.heap.size ≤ x by have := A5.out.b.size; omega))
  clear ho hx hb q0 q1 q2 q3 A5
  go_wp2_with fail
  (with_reducible refine (alone_popper C5.out.e O5.out.1 C5.out.n (popOk1 2 (by omega)) HR.out.2.2.2.2.2).mono ?_)
  rintro e V6 ⟨rfl, hp, hf⟩
  have A6 := Lib.hid (C5.out.done O5.out.1 (by decide) O5.out.2 hp hf HN.out.2.2.2.2.2)
  clear hp hf C5 O5
  go_wp2
  go_ret
  exact ⟨rfl, A6.out.b⟩
end Go.Proofs.Ytplifdmfoeejaaa

namespace Go.Proofs.Ytplifdmfoeejaaa
open Go Go.RowKit
set_option linter.unusedSimpArgs false

/-- An event. -/
structure Ev where
  kd : Int
  wk : Int
  tk : Int
  ot : Int
  lv : Int
  deriving DecidableEq
abbrev evV (e : Ev) : Array Value := #[.int .i64 e.kd, .int .i64 e.wk, .int .i64 e.tk, .int .i64 e.ot, .int .i64 e.lv]
def cellsV : List Ev → List Value
  | [] => []
  | e :: r => .int .i64 e.kd :: .int .i64 e.wk :: .int .i64 e.tk :: .int .i64 e.ot :: .int .i64 e.lv :: cellsV r
theorem cellsV_length : ∀ l : List Ev, (cellsV l).length = l.length * 5
  | [] => rfl
  | e :: r => by
    simp only [cellsV, List.length_cons, cellsV_length r]
    omega
theorem cellsV_append : ∀ a b : List Ev, cellsV (a ++ b) = cellsV a ++ cellsV b
  | [], _ => rfl
  | e :: r, b => by simp [cellsV, cellsV_append r b]
theorem cellsV_one (l : List Ev) : ∀ u ∈ cellsV l, u.oneCell' = true := by
  induction l with
  | nil => intro u hu; cases hu
  | cons e r ih =>
    intro u hu
    simp only [cellsV, List.mem_cons] at hu
    rcases hu with rfl | rfl | rfl | rfl | rfl | hu
    · rfl
    · rfl
    · rfl
    · rfl
    · rfl
    · exact ih u hu
/-- Cell j of element i. -/
theorem cellsV_at : ∀ (l : List Ev) (i j : Nat) (e : Ev), l[i]? = some e → j < 5 → (cellsV l)[i * 5 + j]? = (evV e)[j]?
  | [], _, _, _, h, _ => by simp at h
  | x :: r, 0, j, e, h, hj => by
    simp only [List.getElem?_cons_zero, Option.some.injEq] at h
    subst h
    match j, hj with
    | 0, _ => rfl
    | 1, _ => rfl
    | 2, _ => rfl
    | 3, _ => rfl
    | 4, _ => rfl
    | j + 5, hj => omega
  | x :: r, i + 1, j, e, h, hj => by
    have := cellsV_at r i j e (by simpa using h) hj
    rw [show (i + 1) * 5 + j = i * 5 + j + 1 + 1 + 1 + 1 + 1 by omega]
    simpa [cellsV] using this
/-- A row of events of the call's own. -/
def OwnE (w : World) (base : Nat) (v : Value) (l : List Ev) : Prop := w.ownsRow base 116 5 v l.length (cellsV l)
end Go.Proofs.Ytplifdmfoeejaaa

namespace Go.Proofs.Ytplifdmfoeejaaa
open Go Go.RowKit
set_option linter.unusedSimpArgs false

theorem info_event : (Try.prog.info? 116).map (fun i => (i.zero, i.size, i.bytes)) = some (some (.agg #[.int .i64 0, .int .i64 0, .int .i64 0, .int .i64 0, .int .i64 0]), 5, 40) := by kernel_rfl
/-- The five cells of an event. -/
def FiveV (w : World) (x : Addr) (e : Ev) : Prop := ∀ j u, (cellsV [e])[j]? = some u → w.cell? (x.add j) = some u
theorem fiveV_new (w : World) (kd wk tk ot lv : Int) : FiveV (w.alloc (.cells #[.int .i64 kd, .int .i64 wk, .int .i64 tk, .int .i64 ot, .int .i64 lv] 116)) ⟨w.heap.size, 0, none⟩ ⟨kd, wk, tk, ot, lv⟩ := by
  have hB := Blk.made w 116 #[.int .i64 kd, .int .i64 wk, .int .i64 tk, .int .i64 ot, .int .i64 lv]
  intro j u hu
  match j, hu with
  | 0, hu => exact (hB.at_ 0).trans hu
  | 1, hu => exact (hB.at_ 1).trans hu
  | 2, hu => exact (hB.at_ 2).trans hu
  | 3, hu => exact (hB.at_ 3).trans hu
  | 4, hu => exact (hB.at_ 4).trans hu
  | j + 5, hu => simp [cellsV] at hu
theorem OwnE.below {w w' : World} {B : Nat} {v : Value} {es : List Ev} (h : OwnE w B v es) (hb : Below w.heap.size w w') : OwnE w' B v es := by
  refine ⟨h.1, ?_⟩
  rcases h.2 with h2 | ⟨g, cap, cur, rfl, h2, hg, rest⟩
  · exact .inl h2
  · exact .inr ⟨g, cap, cur, rfl, h2, (hb.block g (Array.getElem?_eq_some_iff.1 hg).1).trans hg, rest⟩
theorem OwnE.lt {w : World} {B : Nat} {v : Value} {es : List Ev} (h : OwnE w B v es) : ∀ k, v.ownBlock = some k → B ≤ k ∧ k < w.heap.size := World.ownsRow.lt h
theorem OwnE.form {w : World} {B : Nat} {v : Value} {es : List Ev} (h : OwnE w B v es) : ∃ a c, v = .slice a es.length c := by
  rcases h.2 with ⟨rfl, h2⟩ | ⟨g, cap, cur, rfl, _⟩
  · rw [h2]
    exact ⟨_, _, rfl⟩
  · exact ⟨_, _, rfl⟩
theorem OwnE.nil (w : World) (B : Nat) : OwnE w B (.slice none 0 0) [] := World.ownsRow_nil w B _ _
theorem wpList_appV {w : World} {ops : Array Oper} {rest : List Oper} {o : Oper} {a : Act} {Q : Exit → Act → World → Prop} (hgd : o.guard = none) (s x : Operand)
    (ho : o.op = .call { callee := .builtin .append, args := #[s, x], argTypes := #[50, 50] })
    {base : Nat} {v : Value} {l : List Ev} (hs : a.eval s = v) (hown : OwnE w base v l) {ad : Addr} {c : Nat} {e : Ev} (hx : a.eval x = .slice (some ad) 1 c) (h5 : FiveV w ad e) (hn : l.length + 1 ≤ 1000000) (hb : base ≤ w.heap.size)
    (h : ∀ v' w', OwnE w' base v' (l ++ [e]) → w.grownBy w' v.ownBlock → (v'.ownBlock = v.ownBlock ∨ v'.ownBlock = some w.heap.size) → wpList Try.prog ops Q rest (a.put o.dst v') w') :
    wpList Try.prog ops Q (o :: rest) a w := by
  obtain ⟨i0, hi, hz0, hz1, hz2⟩ := info_parts info_event
  refine wpList_append_own_at w hgd s x 50 ho base 116 i0 _ 5 40 Try.underlying50 hi hz0 hz1 hz2 rfl (by omega) v l.length (cellsV l) hs hown ad 1 c (cellsV [e]) hx rfl h5 (cellsV_one [e]) (by unfold maxLen; omega) (by omega) hb ?_
  intro v' w' h1 h2 _ h4
  refine h v' w' ?_ h2 h4
  unfold OwnE
  rw [cellsV_append, List.length_append]
  exact h1
theorem OwnE.formN {w : World} {B : Nat} {v : Value} {es : List Ev} {n : Nat} (h : OwnE w B v es) (hn : es.length = n) : ∃ a c, v = .slice a n c := by
  subst hn
  exact h.form
end Go.Proofs.Ytplifdmfoeejaaa

namespace Go.Proofs.Ytplifdmfoeejaaa
open Go Go.RowKit
set_option linter.unusedSimpArgs false

/-- The slice at a reads as the events es. -/
def InE (w : World) (a : Option Addr) (es : List Ev) : Prop := es.length ≤ maxLen ∧ ∀ i e, es[i]? = some e → ∃ x : Addr, a = some x ∧ x.block < w.heap.size ∧ ∀ j, j < 5 → w.cell? (x.add (i * 5 + j)) = (evV e)[j]?
theorem InE.below {w w' : World} {a : Option Addr} {es : List Ev} (h : InE w a es) (hb : Below w.heap.size w w') : InE w' a es :=
  ⟨h.1, fun i e hi => by
    obtain ⟨x, ha, hx, hc⟩ := h.2 i e hi
    exact ⟨x, ha, Nat.lt_of_lt_of_le hx hb.size, fun j hj => (hb.cell (by rw [block_add]; exact hx)).trans (hc j hj)⟩⟩
theorem InE.at_ {w : World} {a : Option Addr} {es : List Ev} (h : InE w a es) {i : Nat} {e : Ev} (hi : es[i]? = some e) :
    ∃ x : Addr, a = some x ∧ w.cell? (x.add (i * 5)) = some (.int .i64 e.kd) ∧ w.cell? ⟨(x.add (i * 5)).block, (x.add (i * 5)).off + 1, none⟩ = some (.int .i64 e.wk) ∧ w.cell? ⟨(x.add (i * 5)).block, (x.add (i * 5)).off + 2, none⟩ = some (.int .i64 e.tk)
      ∧ w.cell? ⟨(x.add (i * 5)).block, (x.add (i * 5)).off + 3, none⟩ = some (.int .i64 e.ot) ∧ w.cell? ⟨(x.add (i * 5)).block, (x.add (i * 5)).off + 4, none⟩ = some (.int .i64 e.lv) := by
  obtain ⟨x, ha, _, hc⟩ := h.2 i e hi
  exact ⟨x, ha, hc 0 (by omega), cell_field (i := i * 5) (j := 0) (hc 1 (by omega)), cell_field (i := i * 5) (j := 1) (hc 2 (by omega)), cell_field (i := i * 5) (j := 2) (hc 3 (by omega)), cell_field (i := i * 5) (j := 3) (hc 4 (by omega))⟩
theorem OwnE.inE {w : World} {B : Nat} {v : Value} {es : List Ev} (h : OwnE w B v es) : ∃ a c, v = .slice a es.length c ∧ InE w a es := by
  rcases h.2 with ⟨rfl, h2⟩ | ⟨g, cap, cur, rfl, _, hg, hn, hm, _, _⟩
  · have hl : es.length = 0 := h2
    have : es = [] := List.length_eq_zero_iff.1 hl
    subst this
    exact ⟨none, 0, rfl, by unfold maxLen; omega, fun i e hi => by simp at hi⟩
  · refine ⟨_, _, rfl, by unfold maxLen at *; omega, fun i e hi => ⟨_, rfl, (Array.getElem?_eq_some_iff.1 hg).1, fun j hj => ?_⟩⟩
    have e1 := cellsV_at es i j e hi hj
    have hlt : j < (evV e).size := hj
    rw [Array.getElem?_eq_getElem hlt] at e1 ⊢
    exact World.ownsRow.cells h rfl _ _ e1
end Go.Proofs.Ytplifdmfoeejaaa
