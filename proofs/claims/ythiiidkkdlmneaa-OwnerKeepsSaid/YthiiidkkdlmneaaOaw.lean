/-
  Stage 9: awake; what the laws about an owner alone carry along. (Written by wip/gen_oaw.py.)
-/
import Derived.Test.YthiiidkkdlmneaaOwM
namespace Go.Proofs.Ythiiidkkdlmneaa
open Go Go.RowKit Go.Shelf
set_option linter.unusedSimpArgs false
set_option linter.unusedVariables false

theorem runS_N {stp : St → Fra → St × Fra × Res} {ok : Fra → Prop} (hk : Keeps stp ok) : ∀ (k : Nat) {s s' : St} {f : Fra} {r : Res} {N : Nat}, s.N → ok f → runS stp k s f = some (s', r, N) → s'.N
  | 0, _, _, _, _, _, _, _, h => by simp [runS] at h
  | k + 1, s, s', f, r, N, hn, ho, h => by
    cases hd : (stp s f).2.2.dn with
    | true =>
      obtain ⟨e, _, _⟩ := runS_end h hd
      rw [← e]
      exact hk.n s f hn ho
    | false =>
      obtain ⟨M, e, _⟩ := runS_on h hd
      exact runS_N hk k (hk.n s f hn ho) (hk.o s f hn ho hd) e

theorem pushOk1 (n : Int) (hn : n ≤ 100) (v : Int) : PushOk (fra1 0 0 1 2 n v) := ⟨.inl rfl, Int.le_refl _, Int.le_refl _, by show n ≤ _; omega⟩
theorem popOk1 (n : Int) (hn : n ≤ 100) : PopOk (fra1 1 0 1 2 n 0) := ⟨.inl rfl, Int.le_refl _, Int.le_refl _, by show n ≤ _; omega⟩

/-- What a law about an owner alone carries along: the program's environment, its deque's value (block qb); all of it is newer than w0. -/
structure AW (w0 : World) (p m k g cap : Nat) (hd : List Value) (rv ev : Value) (t d : Int) (qb n : Nat) (s : St) (w : World) : Prop where
  e : PE w p m k g cap s t d hd rv ev
  q : Blk w qb 53 (qcells 0 1 2 n)
  n : s.N
  b : Below w0.heap.size w0 w
  lo : w0.heap.size ≤ p ∧ w0.heap.size ≤ m ∧ w0.heap.size ≤ k ∧ w0.heap.size ≤ g ∧ w0.heap.size ≤ qb
section
variable {w0 w w' : World} {p m k g cap : Nat} {hd : List Value} {rv ev : Value} {t d : Int} {qb n : Nat} {s s' : St}
theorem AW.below (h : AW w0 p m k g cap hd rv ev t d qb n s w) (hb : Below w.heap.size w w') : AW w0 p m k g cap hd rv ev t d qb n s w' :=
  ⟨h.e.below hb, h.q.below hb, h.n, h.b.trans (hb.mono h.b.size), h.lo⟩
theorem AW.done (h : AW w0 p m k g cap hd rv ev t d qb n s w) {x : Nat} {ty : TypeId} {post : List Value} {f : Fra} {cd vl : Int} (ho : OB w x ty post f cd vl) (ht : ty ≠ 53) (hx : w0.heap.size ≤ x) (hp : PE w' p m k g cap s' t d hd rv ev) (hf : Fr [m, g, x] w w') (hn : s'.N) : AW w0 p m k g cap hd rv ev t d qb n s' w' := by
  obtain ⟨cur, hg, _⟩ := h.e.mem.row.blk
  refine ⟨hp, h.q.of_same (hf.block qb h.q.lt ?_), hn, below_of_fr h.b hf (fun y hy => ?_), h.lo⟩
  · simp only [List.mem_cons, List.not_mem_nil, or_false, not_or]
    exact ⟨h.q.apart h.e.mem.blk (by decide), h.q.apart hg (by decide), h.q.apart ho.blk (fun e => ht e.symm)⟩
  · simp only [List.mem_cons, List.not_mem_nil, or_false] at hy
    rcases hy with rfl | rfl | rfl
    · exact h.lo.2.1
    · exact h.lo.2.2.2.1
    · exact hx
end
theorem dq_new : DQ (St.new 4) 2 0 [] := ⟨by simp [St.new], by decide, by decide, by simp, fun i hi => by simp at hi, by omega⟩
theorem new_N (n : Nat) : (St.new n).N := N_of (fun j hj => by
  have : (St.new n).X.getD j 0 = 0 := by
    show (List.replicate n (0 : Int)).getD j 0 = 0
    rw [List.getD_eq_getElem?_getD, List.getElem?_replicate]
    split <;> rfl
  omega)

set_option maxRecDepth 100000 in
set_option maxHeartbeats 16000000 in
theorem awake9_any (w : World) :
    Calls Try.prog 20 #[] w fun e w' => e = .returned (.bool true) ∧ Below w.heap.size w w' := by
  obtain ⟨s1, r1, d1⟩ := dq_new.push (by simp) (by simp) 5
  obtain ⟨s2, r2, d2⟩ := d1.push (by simp) (by simp) 6
  obtain ⟨s3, r3, d3⟩ := d2.full (by simp) 7
  have e5 : IntKind.u64.wrap 5 = 5 := by decide
  have e6 : IntKind.u64.wrap 6 = 6 := by decide
  rw [e5, e6] at d3
  obtain ⟨s4, r4, d4⟩ := DQ.pop (l := [5]) (v := 6) d3 (by simp) (by simp)
  obtain ⟨s5, r5, d5⟩ := d4.last (by simp)
  obtain ⟨s6, r6, d6⟩ := d5.none
  have i5 : IntKind.i64.wrap 5 = 5 := by decide
  have i6 : IntKind.i64.wrap 6 = 6 := by decide
  rw [i6] at r4
  rw [i5] at r5
  have n1 := runS_N push_keeps 20 (new_N 4) (pushOk1 2 (by omega) 5) r1
  have n2 := runS_N push_keeps 20 n1 (pushOk1 2 (by omega) 6) r2
  have n3 := runS_N push_keeps 20 n2 (pushOk1 2 (by omega) 7) r3
  have n4 := runS_N pop_keeps 20 n3 (popOk1 2 (by omega)) r4
  have n5 := runS_N pop_keeps 20 n4 (popOk1 2 (by omega)) r5
  have n6 := runS_N pop_keeps 20 n5 (popOk1 2 (by omega)) r6
  have HR := Lib.hid (And.intro r1 (And.intro r2 (And.intro r3 (And.intro r4 (And.intro r5 r6)))))
  have HN := Lib.hid (And.intro n1 (And.intro n2 (And.intro n3 (And.intro n4 (And.intro n5 n6)))))
  clear r1 r2 r3 r4 r5 r6 n1 n2 n3 n4 n5 n6 d1 d2 d3 d4 d5 d6 e5 e6 i5 i6
  go_enter Try.func20, Try.ntmps20
  go_wp2_with fail
  (with_reducible refine (pbare_any 4 w).mono ?_)
  rintro e w1 ⟨p, m, k, g, rfl, hp, hb, l1, l2, l3, l4⟩
  have e1 : sizeS 4 = 4 := rfl
  rw [e1] at hp
  have h20 := hp.at20
  have HP := Lib.hid hp
  have HB := Lib.hid hb
  have HL := Lib.hid (And.intro l1 (And.intro l2 (And.intro l3 l4)))
  clear hb e1 hp l1 l2 l3 l4
  go_wp2_with fail
  (with_reducible refine (queue_any 2 _).mono ?_)
  rintro e w2 ⟨rfl, hb2⟩
  have HB2 := Lib.hid (HB.out.trans (hb2.mono HB.out.size))
  have HP2 := Lib.hid (HP.out.below hb2)
  clear hb2 h20 HP HB
  go_upto_region 5 with fail
  have A0 := Lib.hid (show AW w p m k g 4 hd0 (.slice none 0 0) (.slice none 0 0) 0 0 w2.heap.size 2 (St.new 4) (w2.alloc (.cells (qcells 0 1 2 2) 53)) from ⟨HP2.out.alloc _, Blk.made w2 _ _, new_N 4, HB2.out.alloc HB2.out.size _, HL.out.1, HL.out.2.1, HL.out.2.2.1, HL.out.2.2.2, HB2.out.size⟩)
  generalize w2.alloc (.cells (qcells 0 1 2 2) 53) = V0 at *
  generalize w2.heap.size = qb at *
  clear HP2 HB2 HL
  have q0 : V0.cell? ⟨qb, 0, none⟩ = some (.int .i64 0) := A0.out.q.at_ 0
  have q1 : V0.cell? ⟨qb, 1, none⟩ = some (.int .i64 1) := A0.out.q.at_ 1
  have q2 : V0.cell? ⟨qb, 2, none⟩ = some (.int .i64 2) := A0.out.q.at_ 2
  have q3 : V0.cell? ⟨qb, 3, none⟩ = some (.int .i64 2) := A0.out.q.at_ 3
  go_wp2_with fail
  (with_reducible refine (oPush_any 0 1 2 2 5 _).mono ?_)
  rintro e u0 ⟨x, rfl, ho, hx, hb⟩
  have C0 := Lib.hid (A0.out.below hb)
  have O0 := Lib.hid (And.intro ho (show w.heap.size ≤ x by have := A0.out.b.size; omega))
  clear ho hx hb q0 q1 q2 q3 A0
  go_wp2_with fail
  (with_reducible refine (alone_pusher C0.out.e O0.out.1 C0.out.n (pushOk1 2 (by omega) 5) HR.out.1).mono ?_)
  rintro e V1 ⟨rfl, hp, hf⟩
  have A1 := Lib.hid (C0.out.done O0.out.1 (by decide) O0.out.2 hp hf HN.out.1)
  clear hp hf C0 O0
  have q0 : V1.cell? ⟨qb, 0, none⟩ = some (.int .i64 0) := A1.out.q.at_ 0
  have q1 : V1.cell? ⟨qb, 1, none⟩ = some (.int .i64 1) := A1.out.q.at_ 1
  have q2 : V1.cell? ⟨qb, 2, none⟩ = some (.int .i64 2) := A1.out.q.at_ 2
  have q3 : V1.cell? ⟨qb, 3, none⟩ = some (.int .i64 2) := A1.out.q.at_ 3
  go_wp2_with fail
  (with_reducible refine (oPush_any 0 1 2 2 6 _).mono ?_)
  rintro e u1 ⟨x, rfl, ho, hx, hb⟩
  have C1 := Lib.hid (A1.out.below hb)
  have O1 := Lib.hid (And.intro ho (show w.heap.size ≤ x by have := A1.out.b.size; omega))
  clear ho hx hb q0 q1 q2 q3 A1
  go_wp2_with fail
  (with_reducible refine (alone_pusher C1.out.e O1.out.1 C1.out.n (pushOk1 2 (by omega) 6) HR.out.2.1).mono ?_)
  rintro e V2 ⟨rfl, hp, hf⟩
  have A2 := Lib.hid (C1.out.done O1.out.1 (by decide) O1.out.2 hp hf HN.out.2.1)
  clear hp hf C1 O1
  have q0 : V2.cell? ⟨qb, 0, none⟩ = some (.int .i64 0) := A2.out.q.at_ 0
  have q1 : V2.cell? ⟨qb, 1, none⟩ = some (.int .i64 1) := A2.out.q.at_ 1
  have q2 : V2.cell? ⟨qb, 2, none⟩ = some (.int .i64 2) := A2.out.q.at_ 2
  have q3 : V2.cell? ⟨qb, 3, none⟩ = some (.int .i64 2) := A2.out.q.at_ 3
  go_wp2_with fail
  (with_reducible refine (oPush_any 0 1 2 2 7 _).mono ?_)
  rintro e u2 ⟨x, rfl, ho, hx, hb⟩
  have C2 := Lib.hid (A2.out.below hb)
  have O2 := Lib.hid (And.intro ho (show w.heap.size ≤ x by have := A2.out.b.size; omega))
  clear ho hx hb q0 q1 q2 q3 A2
  go_wp2_with fail
  (with_reducible refine (alone_pusher C2.out.e O2.out.1 C2.out.n (pushOk1 2 (by omega) 7) HR.out.2.2.1).mono ?_)
  rintro e V3 ⟨rfl, hp, hf⟩
  have A3 := Lib.hid (C2.out.done O2.out.1 (by decide) O2.out.2 hp hf HN.out.2.2.1)
  clear hp hf C2 O2
  have q0 : V3.cell? ⟨qb, 0, none⟩ = some (.int .i64 0) := A3.out.q.at_ 0
  have q1 : V3.cell? ⟨qb, 1, none⟩ = some (.int .i64 1) := A3.out.q.at_ 1
  have q2 : V3.cell? ⟨qb, 2, none⟩ = some (.int .i64 2) := A3.out.q.at_ 2
  have q3 : V3.cell? ⟨qb, 3, none⟩ = some (.int .i64 2) := A3.out.q.at_ 3
  go_wp2_with fail
  (with_reducible refine (oPop_any 0 1 2 2 _).mono ?_)
  rintro e u3 ⟨x, rfl, ho, hx, hb⟩
  have C3 := Lib.hid (A3.out.below hb)
  have O3 := Lib.hid (And.intro ho (show w.heap.size ≤ x by have := A3.out.b.size; omega))
  clear ho hx hb q0 q1 q2 q3 A3
  go_wp2_with fail
  (with_reducible refine (alone_popper C3.out.e O3.out.1 C3.out.n (popOk1 2 (by omega)) HR.out.2.2.2.1).mono ?_)
  rintro e V4 ⟨rfl, hp, hf⟩
  have A4 := Lib.hid (C3.out.done O3.out.1 (by decide) O3.out.2 hp hf HN.out.2.2.2.1)
  clear hp hf C3 O3
  have q0 : V4.cell? ⟨qb, 0, none⟩ = some (.int .i64 0) := A4.out.q.at_ 0
  have q1 : V4.cell? ⟨qb, 1, none⟩ = some (.int .i64 1) := A4.out.q.at_ 1
  have q2 : V4.cell? ⟨qb, 2, none⟩ = some (.int .i64 2) := A4.out.q.at_ 2
  have q3 : V4.cell? ⟨qb, 3, none⟩ = some (.int .i64 2) := A4.out.q.at_ 3
  go_wp2_with fail
  (with_reducible refine (oPop_any 0 1 2 2 _).mono ?_)
  rintro e u4 ⟨x, rfl, ho, hx, hb⟩
  have C4 := Lib.hid (A4.out.below hb)
  have O4 := Lib.hid (And.intro ho (show w.heap.size ≤ x by have := A4.out.b.size; omega))
  clear ho hx hb q0 q1 q2 q3 A4
  go_wp2_with fail
  (with_reducible refine (alone_popper C4.out.e O4.out.1 C4.out.n (popOk1 2 (by omega)) HR.out.2.2.2.2.1).mono ?_)
  rintro e V5 ⟨rfl, hp, hf⟩
  have A5 := Lib.hid (C4.out.done O4.out.1 (by decide) O4.out.2 hp hf HN.out.2.2.2.2.1)
  clear hp hf C4 O4
  have q0 : V5.cell? ⟨qb, 0, none⟩ = some (.int .i64 0) := A5.out.q.at_ 0
  have q1 : V5.cell? ⟨qb, 1, none⟩ = some (.int .i64 1) := A5.out.q.at_ 1
  have q2 : V5.cell? ⟨qb, 2, none⟩ = some (.int .i64 2) := A5.out.q.at_ 2
  have q3 : V5.cell? ⟨qb, 3, none⟩ = some (.int .i64 2) := A5.out.q.at_ 3
  go_wp2_with fail
  (with_reducible refine (oPop_any 0 1 2 2 _).mono ?_)
  rintro e u5 ⟨x, rfl, ho, hx, hb⟩
  have C5 := Lib.hid (A5.out.below hb)
  have O5 := Lib.hid (And.intro ho (show w.heap.size ≤ x by have := A5.out.b.size; omega))
  clear ho hx hb q0 q1 q2 q3 A5
  go_wp2_with fail
  (with_reducible refine (alone_popper C5.out.e O5.out.1 C5.out.n (popOk1 2 (by omega)) HR.out.2.2.2.2.2).mono ?_)
  rintro e V6 ⟨rfl, hp, hf⟩
  have A6 := Lib.hid (C5.out.done O5.out.1 (by decide) O5.out.2 hp hf HN.out.2.2.2.2.2)
  clear hp hf C5 O5
  go_wp2
  go_ret
  exact ⟨rfl, A6.out.b⟩
end Go.Proofs.Ythiiidkkdlmneaa
