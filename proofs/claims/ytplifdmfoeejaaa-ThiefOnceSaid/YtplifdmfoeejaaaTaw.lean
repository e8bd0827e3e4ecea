/-
  Stage 10: awake.
-/
import Derived.Test.YtplifdmfoeejaaaMgAN
import Derived.Test.YtplifdmfoeejaaaMgAY
import Derived.Test.YtplifdmfoeejaaaMgBG
import Derived.Test.YtplifdmfoeejaaaClQ
namespace Go.Proofs.Ytplifdmfoeejaaa
open Go Go.RowKit Go.Shelf
set_option linter.unusedSimpArgs false
set_option linter.unusedVariables false

theorem stealOk1 (n : Int) (hn : n ≤ 100) : StealOk (fra1 2 0 1 2 n 0) := ⟨.inl rfl, Int.le_refl _, Int.le_refl _, by show n ≤ _; omega⟩
theorem inW_new (w : World) (ty : TypeId) (X : List Int) (h : X.length ≤ 1000) : InW (w.alloc (.cells (X.map (Value.int .u64)).toArray ty)) (some ⟨w.heap.size, 0, none⟩) X.length X := by
  refine ⟨rfl, by unfold maxLen; omega, fun i hi => ⟨⟨w.heap.size, 0, none⟩, rfl, by simp, ?_⟩⟩
  have e : (⟨w.heap.size, 0, none⟩ : Addr).add i = ⟨w.heap.size, i, none⟩ := by unfold Addr.add; split <;> simp_all
  rw [e, (Blk.made w ty _).at_ i, List.getElem?_toArray, List.getElem?_map, List.getD_eq_getElem?_getD, List.getElem?_eq_getElem hi]
  rfl
theorem dq_awake {s : St} (e : s.X = [0, 2, 5, 6]) : DQ s 2 0 [5, 6] := by
  have o : ∀ j : Nat, j < 4 → s.old j = [(0 : Int), 2, 5, 6].getD j 0 := fun j hj => by
    rw [old_len j (by rw [e]; exact hj), e]
  refine ⟨by rw [e]; decide, o 0 (by omega), o 1 (by omega), by decide, fun i hi => ?_, by omega⟩
  match i, hi with
  | 0, _ => exact o 2 (by omega)
  | 1, _ => exact o 3 (by omega)
  | i + 2, hi => exact absurd hi (by simp)
theorem awake_N {s : St} (e : s.X = [0, 2, 5, 6]) : s.N := Row.inNN (X := [0, 2, 5, 6]) (by decide) e
/-- The first three lines of a steal that finds an entry. -/
theorem DQ.steal3 {s : St} {n t : Nat} {l : List Int} {x : Int} (h : DQ s n t (x :: l)) (hb : t + l.length < 18446744073709551000) (kd : Int) : ∃ s1 f1 s2 f2 s3 u, stealS s (fra1 kd 0 1 2 n 0) = (s1, f1, .none) ∧ stealS s1 f1 = (s2, f2, .none) ∧
    stealS s2 f2 = (s3, { fra1 kd 0 1 2 n 0 with fv := t, fu := u, fw := x, ln := 4 }, .none) ∧ DQ s3 n t (x :: l) := by
  have hn := h.nn
  have e1 : stealS s (fra1 kd 0 1 2 n 0) = _ := stealS_1 rfl
  have h1 := h.load 1 0
  have hsz : sizeI ((s.go 1 0 id).old 1) (s.old 0) = (l.length : Int) + 1 := by
    have hcap := h.cap
    simp only [List.length_cons] at hcap
    rw [h1.bot, h.top, size_of (by omega) (by simp; omega)]
    simp
  have h2 := h1.load 1 1
  have e2 := stealS_2 (s := s.go 1 0 id) (f := { fra1 kd 0 1 2 n 0 with fv := s.old 0, ln := 2 }) rfl (by show ¬ sizeI ((s.go 1 0 id).old 1) (s.old 0) ≤ 0; omega)
  have e3 := stealS_3 (s := (s.go 1 0 id).go 1 1 id) (f := { fra1 kd 0 1 2 n 0 with fv := s.old 0, fu := (s.go 1 0 id).old 1, ln := 3 }) rfl
  have hw : ((s.go 1 0 id).go 1 1 id).old (ringI 2 n (s.old 0)) = x := by
    rw [h.top, ring_of n hn]
    have := h2.ent 0 (by simp)
    rw [Nat.add_zero] at this
    rw [this]
    rfl
  refine ⟨_, _, _, _, ((s.go 1 0 id).go 1 1 id).go 1 (ringI 2 n (s.old 0)) id, (s.go 1 0 id).old 1, e1, e2, ?_, h2.load 1 _⟩
  rw [← h.top, ← hw]
  exact e3
theorem steal4_no {s : St} {f : Fra} (h : f.ln = 4) (hh : s.hit f.qt f.fv = false) : ∃ s', stealS s f = (s', f, ⟨true, 4, 0⟩) := by
  have e := stealS_4 (s := s) h
  rw [hh] at e
  exact ⟨_, e⟩
theorem OB.beside {w w' : World} {x y m g : Nat} {ty : TypeId} {post : List Value} {f : Fra} {cd vl : Int} {p k cap : Nat} {s : St} {t d : Int} {hd : List Value} {rv ev : Value} (h : OB w x ty post f cd vl) (hp : PE w p m k g cap s t d hd rv ev) (hxy : x ≠ y) (hf : Fr [m, g, y] w w') : OB w' x ty post f cd vl := by
  obtain ⟨n1, n2, n3, n4⟩ := h.ne hp
  exact h.fr hf (by simp [n2, n4, hxy])

set_option maxRecDepth 100000 in
set_option maxHeartbeats 16000000 in
theorem awake10_any (w : World) :
    Calls Try.prog 20 #[] w fun e w' => e = .returned (.bool true) ∧ Below w.heap.size w w' := by
  go_enter Try.func20, Try.ntmps20
  go_wp2_with fail
  (with_reducible refine (queue_any 2 _).mono ?_)
  rintro e w2 ⟨rfl, hb2⟩
  have B2 := Lib.hid hb2
  clear hb2
  go_upto_region 2 with fail
  have Q3 := Lib.hid (Blk.made w2 25 (qcells 0 1 2 2))
  have B3 := Lib.hid (B2.out.alloc B2.out.size (.cells (qcells 0 1 2 2) 25))
  have HQB := Lib.hid B2.out.size
  generalize w2.alloc (.cells (qcells 0 1 2 2) 25) = V at *
  generalize w2.heap.size = qb at *
  clear B2
  have hin : InW (V.alloc (.cells #[.int .u64 0, .int .u64 2, .int .u64 5, .int .u64 6] 22)) (some ⟨V.heap.size, 0, none⟩) 4 [0, 2, 5, 6] := inW_new V 22 [0, 2, 5, 6] (by decide)
  have HM := Lib.hid (mbare_any hin 4 (by omega))
  have B4 := Lib.hid (B3.out.alloc B3.out.size (.cells #[.int .u64 0, .int .u64 2, .int .u64 5, .int .u64 6] 22))
  have Q4 := Lib.hid (Q3.out.alloc (.cells #[.int .u64 0, .int .u64 2, .int .u64 5, .int .u64 6] 22))
  clear hin Q3 B3
  go_wp2_with fail
  (with_reducible refine HM.out.mono ?_)
  rintro e w5 ⟨p, m, k, g, q, ag, acap, s, rfl, hd, hsX, hsc, hb5⟩
  have hs4 := B4.out.size
  have A5 := Lib.hid (show AW w p m k g 4 hd0 nilV nilV 0 0 qb 2 s w5 from ⟨hd.e, Q4.out.below hb5, awake_N hsX, B4.out.trans (hb5.mono hs4), Nat.le_trans hs4 hd.bp, Nat.le_trans hs4 hd.bm, Nat.le_trans hs4 hd.bk, Nat.le_trans hs4 hd.bg, HQB.out⟩)
  obtain ⟨s1, f1, s2, f2, s3, u, e1, e2, e3, d3⟩ := (dq_awake hsX).steal3 (by simp) 2
  obtain ⟨s4, r4, d4⟩ := DQ.steal d3 (by simp) 2
  have o1 := stealOk1 2 (by omega)
  have n0 := awake_N hsX
  have z1 := steal_keeps.n s _ n0 o1
  have o2 := steal_keeps.o s _ n0 o1 (by rw [show ((2 : Nat) : Int) = 2 from rfl] at e1; rw [e1])
  rw [show ((2 : Nat) : Int) = 2 from rfl] at e1 e3 r4
  rw [e1] at z1 o2
  have z2 := steal_keeps.n s1 f1 z1 o2
  have o3 := steal_keeps.o s1 f1 z1 o2 (by rw [e2])
  rw [e2] at z2 o3
  have z3 := steal_keeps.n s2 f2 z2 o3
  have o4 := steal_keeps.o s2 f2 z2 o3 (by rw [e3])
  rw [e3] at z3 o4
  have z4 := runS_N steal_keeps 20 z3 o1 r4
  obtain ⟨s5, e5⟩ := steal4_no (s := s4) (f := { fra1 2 0 1 2 2 0 with fv := 0, fu := u, fw := 5, ln := 4 }) rfl (by
    show s4.hit 0 0 = false
    unfold St.hit
    rw [d4.top]
    simp)
  have r5 := runS_last (n := 19) e5 rfl
  have HE := Lib.hid (And.intro e1 (And.intro e2 e3))
  have HR := Lib.hid (And.intro r4 r5)
  have HO := Lib.hid (And.intro o1 (And.intro o2 (And.intro o3 o4)))
  have HN := Lib.hid (And.intro z1 (And.intro z2 (And.intro z3 z4)))
  clear hd hsX hsc hb5 Q4 hs4 B4 HM HQB e1 e2 e3 r4 r5 o1 o2 o3 o4 z1 z2 z3 z4 n0 d3 d4 e5
  have q0 : w5.cell? ⟨qb, 0, none⟩ = some (.int .i64 0) := A5.out.q.at_ 0
  have q1 : w5.cell? ⟨qb, 1, none⟩ = some (.int .i64 1) := A5.out.q.at_ 1
  have q2 : w5.cell? ⟨qb, 2, none⟩ = some (.int .i64 2) := A5.out.q.at_ 2
  have q3 : w5.cell? ⟨qb, 3, none⟩ = some (.int .i64 2) := A5.out.q.at_ 3
  go_wp2_with fail
  (with_reducible refine (oSteal_any 0 1 2 2 _).mono ?_)
  rintro e w6 ⟨x, rfl, ho, hx, hb⟩
  have C0 := Lib.hid (A5.out.below hb)
  have O0 := Lib.hid ho
  have X0 := Lib.hid (show w.heap.size ≤ x by have := A5.out.b.size; omega)
  have km := meth_step_stealer x
  have ka := ahead_step_stealer x
  have HS := Lib.hid (stealer_any C0.out.e O0.out HO.out.1.1 HO.out.1.2.2.1 HO.out.1.2.2.2)
  clear ho hx hb q0 q1 q2 q3 A5
  go_wp2_with fail
  (with_reducible refine HS.out.mono ?_)
  rintro e v1 ⟨rfl, hp, hb, hf⟩
  have hE := HE.out.1
  rw [hE] at hp hb
  have C1 := Lib.hid (C0.out.done O0.out (by decide) X0.out hp hf HN.out.1)
  have O1 := Lib.hid (show OB v1 x 100 [.int .u64 f1.fw] f1 0 0 from hb)
  clear HS
  have HS := Lib.hid (stealer_any C1.out.e O1.out HO.out.2.1.1 HO.out.2.1.2.2.1 HO.out.2.1.2.2.2)
  rw [hE]
  clear hp hb hf hE C0 O0
  go_wp2_with fail
  (with_reducible refine HS.out.mono ?_)
  rintro e v2 ⟨rfl, hp, hb, hf⟩
  have hE := HE.out.2.1
  rw [hE] at hp hb
  have C2 := Lib.hid (C1.out.done O1.out (by decide) X0.out hp hf HN.out.2.1)
  have O2 := Lib.hid (show OB v2 x 100 [.int .u64 f2.fw] f2 0 0 from hb)
  clear HS
  have HS := Lib.hid (stealer_any C2.out.e O2.out HO.out.2.2.1.1 HO.out.2.2.1.2.2.1 HO.out.2.2.1.2.2.2)
  rw [hE]
  clear hp hb hf hE C1 O1
  go_wp2_with fail
  (with_reducible refine HS.out.mono ?_)
  rintro e v3 ⟨rfl, hp, hb, hf⟩
  have hE := HE.out.2.2
  rw [hE] at hp hb
  have C3 := Lib.hid (C2.out.done O2.out (by decide) X0.out hp hf HN.out.2.2.1)
  have O3 := Lib.hid (show OB v3 x 100 [.int .u64 5] ({ fra1 2 0 1 2 2 0 with fv := 0, fu := u, fw := 5, ln := 4 } : Fra) 0 0 from hb)
  rw [hE]
  clear hp hb hf hE C2 O2
  clear HS km ka
  have q0 : v3.cell? ⟨qb, 0, none⟩ = some (.int .i64 0) := C3.out.q.at_ 0
  have q1 : v3.cell? ⟨qb, 1, none⟩ = some (.int .i64 1) := C3.out.q.at_ 1
  have q2 : v3.cell? ⟨qb, 2, none⟩ = some (.int .i64 2) := C3.out.q.at_ 2
  have q3 : v3.cell? ⟨qb, 3, none⟩ = some (.int .i64 2) := C3.out.q.at_ 3
  go_wp2_with fail
  (with_reducible refine (oSteal_any 0 1 2 2 _).mono ?_)
  rintro e w7 ⟨y, rfl, ho, hy, hb⟩
  have hxy : x ≠ y := by have := O3.out.blk.lt; omega
  have C4 := Lib.hid (C3.out.below hb)
  have O4 := Lib.hid (O3.out.below hb)
  have Y4 := Lib.hid ho
  have HY := Lib.hid (And.intro hxy (show w.heap.size ≤ y by have := C3.out.b.size; omega))
  clear ho hy hb q0 q1 q2 q3 hxy C3 O3
  go_wp2_with fail
  (with_reducible refine (alone_stealer C4.out.e Y4.out C4.out.n (stealOk1 2 (by omega)) HR.out.1).mono ?_)
  rintro e v5 ⟨rfl, hp, hf⟩
  have C5 := Lib.hid (C4.out.done Y4.out (by decide) HY.out.2 hp hf HN.out.2.2.2)
  have O5 := Lib.hid (O4.out.beside C4.out.e HY.out.1 hf)
  clear hp hf C4 O4 Y4 HY
  go_wp2_with fail
  (with_reducible refine (alone_stealer C5.out.e O5.out C5.out.n HO.out.2.2.2 HR.out.2).mono ?_)
  rintro e v6 ⟨rfl, hp, hf⟩
  have C6 := Lib.hid (C5.out.done O5.out (by decide) X0.out hp hf (runS_N steal_keeps 20 C5.out.n HO.out.2.2.2 HR.out.2))
  clear hp hf C5 O5
  have e5 : wrap64 5 = 5 := by unfold wrap64; omega
  rw [e5]
  go_wp2
  go_ret
  exact ⟨rfl, C6.out.b⟩
end Go.Proofs.Ytplifdmfoeejaaa
