/-
  Stage 12: awake.
-/
import Derived.Test.YtllllbepnnpeeaaGreatMgBL
import Derived.Test.YtllllbepnnpeeaaGreatMgBT
import Derived.Test.YtllllbepnnpeeaaGreatMgBJ
import Derived.Test.YtllllbepnnpeeaaGreatMgBA
namespace Go.Proofs.YtllllbepnnpeeaaGreat
open Go Go.RowKit Go.Shelf
set_option linter.unusedSimpArgs false
set_option linter.unusedVariables false

theorem setOk1 (c b : Int) : SetOk (fraS c b) := ⟨rfl, Int.le_refl _, Int.le_refl _, by show (0 : Int) ≤ _; omega⟩
theorem clearOk1 (c b n : Int) (hn : n ≤ 100) : StealOk (fraC c b 0 1 2 n) := ⟨.inl rfl, Int.le_refl _, Int.le_refl _, by show n ≤ _; omega⟩
/-- What the laws about a bitmap alone carry along: the program's environment; all of it is newer than w0. -/
structure BW (w0 : World) (p m k g cap : Nat) (hd : List Value) (rv ev : Value) (t d : Int) (s : St) (w : World) : Prop where
  e : PE w p m k g cap s t d hd rv ev
  n : s.N
  b : Below w0.heap.size w0 w
  lo : w0.heap.size ≤ p ∧ w0.heap.size ≤ m ∧ w0.heap.size ≤ k ∧ w0.heap.size ≤ g
section
variable {w0 w w' : World} {p m k g cap : Nat} {hd : List Value} {rv ev : Value} {t d : Int} {s s' : St}
theorem BW.below (h : BW w0 p m k g cap hd rv ev t d s w) (hb : Below w.heap.size w w') : BW w0 p m k g cap hd rv ev t d s w' := ⟨h.e.below hb, h.n, h.b.trans (hb.mono h.b.size), h.lo⟩
theorem BW.done (h : BW w0 p m k g cap hd rv ev t d s w) {x : Nat} (hx : w0.heap.size ≤ x) (hp : PE w' p m k g cap s' t d hd rv ev) (hf : Fr [m, g, x] w w') (hn : s'.N) : BW w0 p m k g cap hd rv ev t d s' w' := by
  refine ⟨hp, hn, below_of_fr h.b hf (fun y hy => ?_), h.lo⟩
  simp only [List.mem_cons, List.not_mem_nil, or_false] at hy
  rcases hy with rfl | rfl | rfl
  · exact h.lo.2.1
  · exact h.lo.2.2.2
  · exact hx
theorem BW.acc (h : BW w0 p m k g cap hd rv ev t d s w) (hm : Mem w' m g cap s') (hf : Fr [m, g] w w') (hn : s'.N) : BW w0 p m k g cap hd rv ev t d s' w' := by
  refine ⟨h.e.acc hm hf, hn, below_of_fr h.b hf (fun y hy => ?_), h.lo⟩
  simp only [List.mem_cons, List.not_mem_nil, or_false] at hy
  rcases hy with rfl | rfl
  · exact h.lo.2.1
  · exact h.lo.2.2.2
end
theorem st_old {s : St} {X : List Int} (e : s.X = X) (j : Nat) (hj : j < X.length) : s.old j = X.getD j 0 := by
  rw [old_len j (by rw [e]; exact hj), e]
theorem sizeI_sub (a b : Int) (h0 : 0 ≤ a - b) (h1 : a - b < 9223372036854775807) : sizeI a b = a - b := by
  unfold sizeI
  rw [IntKind.wrap_u64]
  unfold wrap64
  omega
/-- The runs of awake. -/
theorem runs_aw {s0 : St} (h : s0.X = [0, 0, 0, 0]) : ∃ s1 s2 s4, runS setS 9 s0 (fraS 3 5) = some (s1, ⟨true, 0, 0⟩, 1) ∧ runS clearS 9 s1 (fraC 3 5 0 1 2 1) = some (s2, ⟨true, 2, 0⟩, 3) ∧ s2.old 3 = 0 ∧
    runS clearS 9 (s2.go 2 1 (fun _ => 1)) (fraC 3 5 0 1 2 1) = some (s4, ⟨true, 1, 0⟩, 4) ∧ s4.old 3 = 32 := by
  have h0 : ∀ j : Nat, j < 4 → s0.old j = 0 := fun j hj => by
    rw [st_old h j hj]
    match j, hj with
    | 0, _ => rfl
    | 1, _ => rfl
    | 2, _ => rfl
    | 3, _ => rfl
  have m5 : maskS 5 = 32 := by decide
  have hl : s0.X.length = 4 := by rw [h]; rfl
  have hs : ∀ s : St, s.X.length = 4 → s.has 3 := fun s e => ⟨by omega, by omega⟩
  have r1 := run_set s0 (fraS 3 5)
  obtain ⟨s1, e1⟩ : ∃ s1, s0.go 4 3 (fun x => bits .or .u64 x (maskS 5)) = s1 := ⟨_, rfl⟩
  have r1' : runS setS 9 s0 (fraS 3 5) = some (s1, ⟨true, 0, 0⟩, 1) := by rw [← e1]; exact r1
  have l1 : s1.X.length = 4 := by rw [← e1, go_len, hl]
  have o13 : s1.old 3 = maskS 5 := by
    rw [← e1, go_old _ _ _ _ (hs _ hl)]
    have := h0 3 (by omega)
    rw [show ((3 : Nat) : Int) = 3 from rfl] at this
    rw [this]
    exact or_zero_mask 5 (by omega)
  have o1 : ∀ j : Nat, j < 3 → s1.old j = 0 := fun j hj => by rw [← e1, go_other _ _ _ _ _ (by omega), h0 j (by omega)]
  have z1 : s1.old 0 = 0 := o1 0 (by omega)
  have z2 : s1.old 1 = 0 := o1 1 (by omega)
  obtain ⟨s2, r, N, r2, l2, oo, hc⟩ := run_clear s1 (fraC 3 5 0 1 2 1) rfl (by show (3 : Int) ≠ 1; omega) (by show (3 : Int) ≠ 0; omega)
  rw [l1] at l2
  have hsz : sizeI (s1.old (fraC 3 5 0 1 2 1).qb) (s1.old (fraC 3 5 0 1 2 1).qt) ≤ 0 := by
    show sizeI (s1.old 1) (s1.old 0) ≤ 0
    rw [z1, z2, sizeI_sub 0 0 (by omega) (by omega)]
    decide
  obtain ⟨_, rfl, rfl, ho⟩ := hc.resolve_right (fun h => h.1 hsz)
  have o23 : s2.old 3 = 0 := by
    have := ho (hs _ l1)
    rw [show (fraC 3 5 0 1 2 1).fa = 3 from rfl, show (fraC 3 5 0 1 2 1).fb = 5 from rfl, o13] at this
    rw [this]
    exact and_mask_mask 5 (by omega)
  have z3 : s2.old 0 = 0 := (oo 0 (by show (0 : Int) ≠ 3; omega)).trans z1
  have l3 : (s2.go 2 1 (fun _ => 1)).X.length = 4 := by rw [go_len, l2]
  have y1 : (s2.go 2 1 (fun _ => 1)).old 1 = 1 := go_old _ _ _ _ ⟨by omega, by omega⟩
  have y0 : (s2.go 2 1 (fun _ => 1)).old 0 = 0 := (go_other _ _ _ _ _ (by omega)).trans z3
  have y3 : (s2.go 2 1 (fun _ => 1)).old 3 = 0 := (go_other _ _ _ _ _ (by omega)).trans o23
  obtain ⟨s4, r, N, r4, l4, oo, hc⟩ := run_clear (s2.go 2 1 (fun _ => 1)) (fraC 3 5 0 1 2 1) rfl (by show (3 : Int) ≠ 1; omega) (by show (3 : Int) ≠ 0; omega)
  have hsz : ¬ sizeI ((s2.go 2 1 (fun _ => 1)).old (fraC 3 5 0 1 2 1).qb) ((s2.go 2 1 (fun _ => 1)).old (fraC 3 5 0 1 2 1).qt) ≤ 0 := by
    show ¬ sizeI ((s2.go 2 1 (fun _ => 1)).old 1) ((s2.go 2 1 (fun _ => 1)).old 0) ≤ 0
    rw [y0, y1, sizeI_sub 1 0 (by omega) (by omega)]
    decide
  obtain ⟨_, rfl, rfl, ho⟩ := hc.resolve_left (fun h => hsz h.1)
  have o43 : s4.old 3 = 32 := by
    have := ho (hs _ l3)
    rw [show (fraC 3 5 0 1 2 1).fa = 3 from rfl, show (fraC 3 5 0 1 2 1).fb = 5 from rfl, y3] at this
    have za : bits .and .u64 0 (notU (maskS 5)) = 0 := and_zero_mask 5 (by omega)
    have zo : bits .or .u64 0 (maskS 5) = maskS 5 := or_zero_mask 5 (by omega)
    rw [this, za, zo]
    exact m5
  exact ⟨s1, s2, s4, r1', r2, o23, r4, o43⟩

set_option maxRecDepth 100000 in
set_option maxHeartbeats 16000000 in
theorem awake12_any (w : World) :
    Calls Tryz.prog 18 #[] w fun e w' => e = .returned (.bool true) ∧ Below w.heap.size w w' := by
  go_enter Tryz.func18, Tryz.ntmps18
  go_wp2_with fail
  (with_reducible refine (queue_any 1 _).mono ?_)
  rintro e w2 ⟨rfl, hb2⟩
  have B2 := Lib.hid hb2
  clear hb2
  go_upto_region 2 with fail
  have Q3 := Lib.hid (Blk.made w2 52 (qcells 0 1 2 1))
  have B3 := Lib.hid (B2.out.alloc B2.out.size (.cells (qcells 0 1 2 1) 52))
  generalize w2.alloc (.cells (qcells 0 1 2 1) 52) = V at *
  generalize w2.heap.size = qb at *
  clear B2
  have hin : InW (V.alloc (.cells #[.int .u64 0, .int .u64 0, .int .u64 0, .int .u64 0] 53)) (some ⟨V.heap.size, 0, none⟩) 4 [0, 0, 0, 0] := inW_new V 53 [0, 0, 0, 0] (by decide)
  have HM := Lib.hid (mbare_any hin 4 (by omega))
  have B4 := Lib.hid (B3.out.alloc B3.out.size (.cells #[.int .u64 0, .int .u64 0, .int .u64 0, .int .u64 0] 53))
  have Q4 := Lib.hid (Q3.out.alloc (.cells #[.int .u64 0, .int .u64 0, .int .u64 0, .int .u64 0] 53))
  clear hin Q3 B3
  go_wp2_with fail
  (with_reducible refine HM.out.mono ?_)
  rintro e w5 ⟨p, m, k, g, q, ag, acap, s, rfl, hd, hsX, hsc, hb5⟩
  have hs4 := B4.out.size
  have n0 : s.N := Row.inNN (X := [0, 0, 0, 0]) (by decide) hsX
  have A5 := Lib.hid (show BW w p m k g 4 hd0 nilV nilV 0 0 s w5 from ⟨hd.e, n0, B4.out.trans (hb5.mono hs4), Nat.le_trans hs4 hd.bp, Nat.le_trans hs4 hd.bm, Nat.le_trans hs4 hd.bk, Nat.le_trans hs4 hd.bg⟩)
  have Q5 := Lib.hid (Q4.out.below hb5)
  obtain ⟨s1, s2, s4, r1, r2, o23, r4, o43⟩ := runs_aw hsX
  have z1 := runS_N set_keeps 9 n0 (setOk1 3 5) r1
  have z2 := runS_N clear_keeps 9 z1 (clearOk1 3 5 1 (by omega)) r2
  have z3 : (s2.go 2 1 (fun _ => 1)).N := go_N z2 _ _ _ (fun x hx => by decide)
  have z4 := runS_N clear_keeps 9 z3 (clearOk1 3 5 1 (by omega)) r4
  have HR := Lib.hid (And.intro r1 (And.intro r2 r4))
  have HO := Lib.hid (And.intro o23 o43)
  have HN := Lib.hid (And.intro z1 (And.intro z2 (And.intro z3 z4)))
  clear hd hsX hsc hb5 Q4 hs4 B4 HM r1 r2 r4 o23 o43 z1 z2 z3 z4 n0
  go_wp2_with fail
  (with_reducible refine (bSet_any 3 5 _).mono ?_)
  rintro e w6 ⟨x, rfl, ho, hx, hb⟩
  have C0 := Lib.hid (A5.out.below hb)
  have Q6 := Lib.hid (Q5.out.below hb)
  have O0 := Lib.hid ho
  have X0 := Lib.hid (show w.heap.size ≤ x by have := A5.out.b.size; omega)
  have N0 := Lib.hid (show x ≠ qb by have := Q5.out.lt; omega)
  clear ho hx hb A5 Q5
  go_wp2_with fail
  (with_reducible refine (alone_setter C0.out.e O0.out C0.out.n (setOk1 3 5) HR.out.1).mono ?_)
  rintro e v1 ⟨rfl, hp, hf⟩
  have C1 := Lib.hid (C0.out.done X0.out hp hf HN.out.1)
  have Q7 := Lib.hid (Q6.out.of_same (hf.block qb Q6.out.lt (by
    obtain ⟨cur, hg, _⟩ := C0.out.e.mem.row.blk
    simp only [List.mem_cons, List.not_mem_nil, or_false, not_or]
    exact ⟨Q6.out.apart C0.out.e.mem.blk (by decide), Q6.out.apart hg (by decide), fun e => N0.out e.symm⟩)))
  clear hp hf C0 O0 Q6 X0 N0
  have q0 : v1.cell? ⟨qb, 0, none⟩ = some (.int .i64 0) := Q7.out.at_ 0
  have q1 : v1.cell? ⟨qb, 1, none⟩ = some (.int .i64 1) := Q7.out.at_ 1
  have q2 : v1.cell? ⟨qb, 2, none⟩ = some (.int .i64 2) := Q7.out.at_ 2
  have q3 : v1.cell? ⟨qb, 3, none⟩ = some (.int .i64 1) := Q7.out.at_ 3
  go_wp2_with fail
  (with_reducible refine (bClear_any 3 5 0 1 2 1 _).mono ?_)
  rintro e w6 ⟨x, rfl, ho, hx, hb⟩
  have C0 := Lib.hid (C1.out.below hb)
  have Q6 := Lib.hid (Q7.out.below hb)
  have O0 := Lib.hid ho
  have X0 := Lib.hid (show w.heap.size ≤ x by have := C1.out.b.size; omega)
  have N0 := Lib.hid (show x ≠ qb by have := Q7.out.lt; omega)
  clear ho hx hb C1 Q7 q0 q1 q2 q3
  go_wp2_with fail
  (with_reducible refine (alone_clearer C0.out.e O0.out C0.out.n (clearOk1 3 5 1 (by omega)) HR.out.2.1).mono ?_)
  rintro e v2 ⟨rfl, hp, hf⟩
  have C2 := Lib.hid (C0.out.done X0.out hp hf HN.out.2.1)
  have Q7 := Lib.hid (Q6.out.of_same (hf.block qb Q6.out.lt (by
    obtain ⟨cur, hg, _⟩ := C0.out.e.mem.row.blk
    simp only [List.mem_cons, List.not_mem_nil, or_false, not_or]
    exact ⟨Q6.out.apart C0.out.e.mem.blk (by decide), Q6.out.apart hg (by decide), fun e => N0.out e.symm⟩)))
  clear hp hf C0 O0 Q6 X0 N0
  have e20 : v2.cell? ⟨p, 20, none⟩ = some (.pointer (some ⟨m, 0, none⟩)) := C2.out.e.at20
  go_wp2_with fail
  (with_reducible refine (peek_any C2.out.e.mem 3).mono ?_)
  rintro e wx ⟨rfl, rfl⟩
  rw [HO.out.1]
  go_wp2_with fail
  (with_reducible refine (store_any C2.out.e.mem 1 1).mono ?_)
  rintro e v3 ⟨rfl, hm, hf⟩
  have C3 := Lib.hid (C2.out.acc hm hf HN.out.2.2.1)
  have Q8 := Lib.hid (Q7.out.of_same (hf.block qb Q7.out.lt (by
    obtain ⟨cur, hg, _⟩ := C2.out.e.mem.row.blk
    simp only [List.mem_cons, List.not_mem_nil, or_false, not_or]
    exact ⟨Q7.out.apart C2.out.e.mem.blk (by decide), Q7.out.apart hg (by decide)⟩)))
  clear hm hf C2 Q7 e20
  have q0 : v3.cell? ⟨qb, 0, none⟩ = some (.int .i64 0) := Q8.out.at_ 0
  have q1 : v3.cell? ⟨qb, 1, none⟩ = some (.int .i64 1) := Q8.out.at_ 1
  have q2 : v3.cell? ⟨qb, 2, none⟩ = some (.int .i64 2) := Q8.out.at_ 2
  have q3 : v3.cell? ⟨qb, 3, none⟩ = some (.int .i64 1) := Q8.out.at_ 3
  go_wp2_with fail
  (with_reducible refine (bClear_any 3 5 0 1 2 1 _).mono ?_)
  rintro e w6 ⟨x, rfl, ho, hx, hb⟩
  have C0 := Lib.hid (C3.out.below hb)
  have O0 := Lib.hid ho
  have X0 := Lib.hid (show w.heap.size ≤ x by have := C3.out.b.size; omega)
  clear ho hx hb C3 Q8 q0 q1 q2 q3
  go_wp2_with fail
  (with_reducible refine (alone_clearer C0.out.e O0.out C0.out.n (clearOk1 3 5 1 (by omega)) HR.out.2.2).mono ?_)
  rintro e v4 ⟨rfl, hp, hf⟩
  have C4 := Lib.hid (C0.out.done X0.out hp hf HN.out.2.2.2)
  clear hp hf C0 O0 X0
  have e20 : v4.cell? ⟨p, 20, none⟩ = some (.pointer (some ⟨m, 0, none⟩)) := C4.out.e.at20
  go_wp2_with fail
  (with_reducible refine (peek_any C4.out.e.mem 3).mono ?_)
  rintro e wx ⟨rfl, rfl⟩
  rw [HO.out.2]
  go_wp2
  go_ret
  exact ⟨rfl, C4.out.b⟩
end Go.Proofs.YtllllbepnnpeeaaGreat
