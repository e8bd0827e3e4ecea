/-
  Package layout: New. (Written by wip/gen_lyb.py.)
-/
import Derived.Test.YtgipddeldddbnaaGreatMgAJ
import Derived.Test.YtgipddeldddbnaaGreatMgBN
import Derived.Laws.ResultCell
import Derived.Deep.RegionHeld
import Derived.Test.YtgipddeldddbnaaGreatSeq
namespace Go.Proofs.YtgipddeldddbnaaGreat
open Go Go.RowKit
set_option linter.unusedSimpArgs false

theorem results_row_tmp {P : Program} {fn : Func} {p u : Tmp} {ty : TypeId} (h : fn.results = #[.cell p ty, .tmp u]) (tmps : Array Value) (w : World) (g : Nat) (t : TypeId) (cs : Array Value) (fr : Nat × Nat) (d : TypeDesc)
    (hp : tmps.getD p undef = .pointer (some ⟨g, 0, none⟩)) (hg : w.heap[g]? = some (.cells cs t fr))
    (hu : P.underlying ty = some d) (hd : (match d with | .struct _ | .array _ _ => true | _ => false) = true) (hi : (P.info? ty).map (·.size) = some cs.size) :
    (results fn tmps).run P w = .ok (.tuple #[.agg cs, tmps.getD u undef]) w := by
  rw [Go.results_cell_tmp h, hp]
  simp [asAddr, run_loadVar_row w g t ty cs fr d hg hu hd hi, Result.andThen]

/-- A valid configuration's numbers are in their ranges. -/
theorem cfgIn_chk {c : Cfg} (h : chk c = 0) : CfgIn c := by
  obtain ⟨h1, _⟩ := chk_ok h
  obtain ⟨a, b, d, e, f, g, _⟩ := numsB_iff.1 h1
  exact ⟨a, b, by omega, e, f, by omega⟩

abbrev lz : Array Value := #[.int .i64 0, .int .i64 0, .int .i64 0, .int .i64 0, .int .i64 0, .int .i64 0, .int .i64 0, .int .i64 0, .int .i64 0]
/-- What New gives. -/
def NewL (c : Cfg) (w : World) (e : Ending) (w' : World) : Prop := e = .returned (.tuple #[if chk c = 0 then lv c else .agg lz, .int .i64 (chk c)]) ∧ Below w.heap.size w w'

theorem Blk.put9 {w : World} {g : Nat} {t : TypeId} {a0 a1 a2 a3 a4 a5 a6 a7 a8 : Value} (h : Blk w g t #[a0, a1, a2, a3, a4, a5, a6, a7, a8]) (v0 v1 v2 v3 v4 v5 v6 v7 v8 : Value) : Blk (((((((((w.setCell ⟨g, 0, none⟩ v0).setCell ⟨g, 1, none⟩ v1).setCell ⟨g, 2, none⟩ v2).setCell ⟨g, 3, none⟩ v3).setCell ⟨g, 4, none⟩ v4).setCell ⟨g, 5, none⟩ v5).setCell ⟨g, 6, none⟩ v6).setCell ⟨g, 7, none⟩ v7).setCell ⟨g, 8, none⟩ v8) g t #[v0, v1, v2, v3, v4, v5, v6, v7, v8] := by
  have := (((((((((h.put 0 v0).put 1 v1).put 2 v2).put 3 v3).put 4 v4).put 5 v5).put 6 v6).put 7 v7).put 8 v8)
  simpa only [List.setIfInBounds_toArray, List.set_cons_zero, List.set_cons_succ] using this
theorem fr9 (w : World) (g : Nat) (v0 v1 v2 v3 v4 v5 v6 v7 v8 : Value) : Fr [g] w (((((((((w.setCell ⟨g, 0, none⟩ v0).setCell ⟨g, 1, none⟩ v1).setCell ⟨g, 2, none⟩ v2).setCell ⟨g, 3, none⟩ v3).setCell ⟨g, 4, none⟩ v4).setCell ⟨g, 5, none⟩ v5).setCell ⟨g, 6, none⟩ v6).setCell ⟨g, 7, none⟩ v7).setCell ⟨g, 8, none⟩ v8) :=
  ((((((((((Fr.refl [g] w).setCell (p := ⟨g, 0, none⟩) (.inl (List.mem_singleton.2 rfl)) v0).setCell (p := ⟨g, 1, none⟩) (.inl (List.mem_singleton.2 rfl)) v1).setCell (p := ⟨g, 2, none⟩) (.inl (List.mem_singleton.2 rfl)) v2).setCell (p := ⟨g, 3, none⟩) (.inl (List.mem_singleton.2 rfl)) v3).setCell (p := ⟨g, 4, none⟩) (.inl (List.mem_singleton.2 rfl)) v4).setCell (p := ⟨g, 5, none⟩) (.inl (List.mem_singleton.2 rfl)) v5).setCell (p := ⟨g, 6, none⟩) (.inl (List.mem_singleton.2 rfl)) v6).setCell (p := ⟨g, 7, none⟩) (.inl (List.mem_singleton.2 rfl)) v7).setCell (p := ⟨g, 8, none⟩) (.inl (List.mem_singleton.2 rfl)) v8)
/-- What holds while the cells of the deques are reckoned: block L is the layout under way. -/
structure NewS (w : World) (c : Cfg) (pa : Option Addr) (pn pc : Nat) (sa : Option Addr) (sn sc L : Nat) (lc : Array Value) (u : World) : Prop where
  l : Blk u L 34 lc
  x : Blk u w.heap.size 30 (cc c pa pn pc sa sn sc)
  r : Blk u (w.heap.size + 1) 34 lz
  b : Below w.heap.size w u

set_option maxRecDepth 20000 in
set_option maxHeartbeats 4000000 in
theorem new_no {w : World} {B : Nat} {c : Cfg} {pa : Option Addr} {pn : Nat} {sa : Option Addr} {sn : Nat} (h : Lists w B c pa pn sa sn) (pc sc : Nat) (hc : chk c ≠ 0) :
    Calls Tryz.prog 11 #[cv c pa pn pc sa sn sc] w (NewL c w) := by
  unfold NewL
  rw [if_neg hc]
  obtain ⟨R, hR0⟩ : ∃ R, chk c = R := ⟨_, rfl⟩
  rw [hR0] at hc ⊢
  have HR := Lib.hid hR0
  clear hR0
  have hw1 : (w.alloc (cbox c pa pn pc sa sn sc)).heap.size = w.heap.size + 1 := by simp
  have H1 := Lib.hid ((h.alloc (cbox c pa pn pc sa sn sc)).alloc (.cells lz 34))
  have X1 := Lib.hid ((Blk.made w 30 (cc c pa pn pc sa sn sc)).alloc (.cells lz 34))
  have hR := Blk.made (w.alloc (cbox c pa pn pc sa sn sc)) 34 lz
  rw [hw1] at hR
  have R1 := Lib.hid hR
  have B1 := Lib.hid ((below_one w (cbox c pa pn pc sa sn sc)).alloc (by simp) (.cells lz 34))
  clear hR h
  have hne : (R == 0) = false := by simpa using hc
  clear hw1
  go_enter Tryz.func11, Tryz.ntmps11
  go_wp2_with fail
  generalize (w.alloc (cbox c pa pn pc sa sn sc)).alloc (.cells lz 34) = W at *
  (with_reducible refine (check_any H1.out _ _).mono ?_)
  rintro e w1 ⟨rfl, b1⟩
  rw [HR.out]
  have R2 := Lib.hid (R1.out.below b1)
  have B2 := Lib.hid (B1.out.trans (b1.mono B1.out.size))
  clear b1
  have hr := R2.out
  obtain ⟨e0, e1, e2, e3, e4, e5, e6, e7, e8⟩ := (⟨hr.at_ 0, hr.at_ 1, hr.at_ 2, hr.at_ 3, hr.at_ 4, hr.at_ 5, hr.at_ 6, hr.at_ 7, hr.at_ 8⟩ : _ ∧ _ ∧ _ ∧ _ ∧ _ ∧ _ ∧ _ ∧ _ ∧ _)
  obtain ⟨f0, f1, f2, f3, f4, f5, f6, f7, f8⟩ := (⟨hr.free 0, hr.free 1, hr.free 2, hr.free 3, hr.free 4, hr.free 5, hr.free 6, hr.free 7, hr.free 8⟩ : _ ∧ _ ∧ _ ∧ _ ∧ _ ∧ _ ∧ _ ∧ _ ∧ _)
  simp only [List.getElem?_toArray, List.getElem?_cons_zero, List.getElem?_cons_succ] at e0 e1 e2 e3 e4 e5 e6 e7 e8
  clear hr
  go_wp2
  refine bodyPost_ret (results_row_tmp (P := Tryz.prog) Tryz.results11 _ _ (w.heap.size + 1) 34 _ (0, 0) _ rfl (R2.out.put9 (.int .i64 0) (.int .i64 0) (.int .i64 0) (.int .i64 0) (.int .i64 0) (.int .i64 0) (.int .i64 0) (.int .i64 0) (.int .i64 0)) Tryz.underlying34 rfl (by kernel_rfl)) rfl ?_
  refine ⟨rfl, B2.out.trans ?_⟩
  exact (fr9 w1 (w.heap.size + 1) _ _ _ _ _ _ _ _ _).below B2.out.size (fun k hk => by simp at hk; omega)

set_option maxRecDepth 20000 in
set_option maxHeartbeats 4000000 in
theorem new_yes {w : World} {B : Nat} {c : Cfg} {pa : Option Addr} {pn : Nat} {sa : Option Addr} {sn : Nat} (h : Lists w B c pa pn sa sn) (pc sc : Nat) (hc : chk c = 0) :
    Calls Tryz.prog 11 #[cv c pa pn pc sa sn sc] w (NewL c w) := by
  unfold NewL
  rw [if_pos hc]
  have HC := Lib.hid hc
  have hin := cfgIn_chk hc
  have h1 := hin.he
  have h2 := hin.cl
  have h3 := hin.wo
  have h4 := hin.le
  have h5 := hin.de
  have h6 := hin.ta
  have hd := hin.deques
  have hal := hin.all
  have hwl := hin.wl
  have HIN := Lib.hid hin
  obtain ⟨P0, hP0⟩ : ∃ p, c.wo * c.le = p := ⟨_, rfl⟩
  obtain ⟨P1, hP1⟩ : ∃ p, rAll c = p := ⟨_, rfl⟩
  obtain ⟨D, hD⟩ : ∃ d, rDeques c = d := ⟨_, rfl⟩
  have hD2 : D = 4 + c.he + c.cl + c.wo + c.wo := by rw [← hD]; unfold rDeques; omega
  have hP2 : P0 * (2 + c.de) = P1 := by rw [← hP1, ← hP0]; rfl
  have hC : rCells c = D + P1 + c.ta * 5 := by rw [← hP1, ← hD]; unfold rCells; omega
  rw [hP1] at hal
  rw [hP0] at hwl
  rw [hD] at hd
  have s0 : IntKind.i64.wrap (c.wo * c.le) = P0 := by rw [hP0]; exact IntWalk.i64_in _ (by omega)
  have s3 : IntKind.i64.wrap (P0 * (2 + c.de)) = P1 := by rw [hP2]; exact IntWalk.i64_in _ (by omega)
  have s4 : IntKind.i64.wrap (D + P1) = D + P1 := IntWalk.i64_in _ (by omega)
  have HLV := Lib.hid (show lcells c = #[.int .i64 4, .int .i64 (4 + c.he), .int .i64 (4 + c.he + c.cl), .int .i64 (4 + c.he + c.cl + c.wo), .int .i64 D, .int .i64 (D + P1), .int .i64 (D + P1 + c.ta * 5), .int .i64 c.le, .int .i64 c.de] by rw [← hC, ← hD, ← hP1])
  have S0 := Lib.hid s0
  have S3 := Lib.hid s3
  have S4 := Lib.hid s4
  have D2 := Lib.hid hD2
  have DD := Lib.hid hD
  clear hP0 hP1 hP2 hD hC s0 s3 s4 hin hD2
  have hw1 : (w.alloc (cbox c pa pn pc sa sn sc)).heap.size = w.heap.size + 1 := by simp
  have H1 := Lib.hid ((h.alloc (cbox c pa pn pc sa sn sc)).alloc (.cells lz 34))
  have X1 := Lib.hid ((Blk.made w 30 (cc c pa pn pc sa sn sc)).alloc (.cells lz 34))
  have hR := Blk.made (w.alloc (cbox c pa pn pc sa sn sc)) 34 lz
  rw [hw1] at hR
  have R1 := Lib.hid hR
  have B1 := Lib.hid ((below_one w (cbox c pa pn pc sa sn sc)).alloc (by simp) (.cells lz 34))
  clear hR h
  clear hc hw1
  go_enter Tryz.func11, Tryz.ntmps11
  go_wp2_with fail
  generalize (w.alloc (cbox c pa pn pc sa sn sc)).alloc (.cells lz 34) = W at *
  (with_reducible refine (check_any H1.out _ _).mono ?_)
  rintro e w1 ⟨rfl, b1⟩
  rw [HC.out]
  have X2 := Lib.hid (X1.out.below b1)
  have R2 := Lib.hid (R1.out.below b1)
  have B2 := Lib.hid (B1.out.trans (b1.mono B1.out.size))
  clear b1 X1 R1 B1 H1
  obtain ⟨e0, e1, e2, e3, e4, e5, e6, e7, e8, e9, e10⟩ := eleven X2.out
  go_upto_region 5 with fail
  have hL := Blk.made w1 34 #[.int .i64 4, .int .i64 0, .int .i64 0, .int .i64 0, .int .i64 0, .int .i64 0, .int .i64 0, .int .i64 c.le, .int .i64 c.de]
  have X3 := Lib.hid (X2.out.alloc (.cells #[.int .i64 4, .int .i64 0, .int .i64 0, .int .i64 0, .int .i64 0, .int .i64 0, .int .i64 0, .int .i64 c.le, .int .i64 c.de] 34))
  have R3 := Lib.hid (R2.out.alloc (.cells #[.int .i64 4, .int .i64 0, .int .i64 0, .int .i64 0, .int .i64 0, .int .i64 0, .int .i64 0, .int .i64 c.le, .int .i64 c.de] 34))
  have B3 := Lib.hid (B2.out.alloc B2.out.size (.cells #[.int .i64 4, .int .i64 0, .int .i64 0, .int .i64 0, .int .i64 0, .int .i64 0, .int .i64 0, .int .i64 c.le, .int .i64 c.de] 34))
  have L3 := Lib.hid hL
  have hlX : w.heap.size < w1.heap.size := X2.out.lt
  have hlR : w.heap.size + 1 < w1.heap.size := R2.out.lt
  generalize (w1.alloc (.cells #[.int .i64 4, .int .i64 0, .int .i64 0, .int .i64 0, .int .i64 0, .int .i64 0, .int .i64 0, .int .i64 c.le, .int .i64 c.de] 34)) = V3 at *
  generalize w1.heap.size = L at *
  clear hL X2 R2 B2 e0 e1 e2 e3 e4 e5 e6 e7 e8 e9 e10
  have c0 : V3.cell? ⟨L, 0, none⟩ = some (.int .i64 4) := L3.out.at_ 0
  have d0 : V3.cell? ⟨w.heap.size, 5, none⟩ = some (.int .i64 c.he) := X3.out.at_ 5
  have k0 : V3.cell? ⟨L, 1, none⟩ = some (.int .i64 0) := L3.out.at_ 1
  have f0 := L3.out.free 1
  go_upto_region 6 with fail
  have L4 := Lib.hid (L3.out.put 1 (.int .i64 (4 + c.he)))
  have X4 := Lib.hid (X3.out.of_same (show (V3.setCell ⟨L, 1, none⟩ (.int .i64 (4 + c.he))).heap[w.heap.size]? = _ from Below.heap_setCell _ _ _ _ (by show w.heap.size ≠ L; omega)))
  have R4 := Lib.hid (R3.out.of_same (show (V3.setCell ⟨L, 1, none⟩ (.int .i64 (4 + c.he))).heap[w.heap.size + 1]? = _ from Below.heap_setCell _ _ _ _ (by show w.heap.size + 1 ≠ L; omega)))
  have B4 := Lib.hid (B3.out.setCell (p := ⟨L, 1, none⟩) (by show w.heap.size ≤ L; omega) (.int .i64 (4 + c.he)))
  generalize V3.setCell ⟨L, 1, none⟩ (.int .i64 (4 + c.he)) = V4 at *
  simp only [List.setIfInBounds_toArray, List.set_cons_zero, List.set_cons_succ] at L4
  clear c0 d0 k0 f0 L3 X3 R3 B3
  have c1 : V4.cell? ⟨L, 1, none⟩ = some (.int .i64 (4 + c.he)) := L4.out.at_ 1
  have d1 : V4.cell? ⟨w.heap.size, 2, none⟩ = some (.int .i64 c.cl) := X4.out.at_ 2
  have k1 : V4.cell? ⟨L, 2, none⟩ = some (.int .i64 0) := L4.out.at_ 2
  have f1 := L4.out.free 2
  go_upto_region 7 with fail
  have L5 := Lib.hid (L4.out.put 2 (.int .i64 (4 + c.he + c.cl)))
  have X5 := Lib.hid (X4.out.of_same (show (V4.setCell ⟨L, 2, none⟩ (.int .i64 (4 + c.he + c.cl))).heap[w.heap.size]? = _ from Below.heap_setCell _ _ _ _ (by show w.heap.size ≠ L; omega)))
  have R5 := Lib.hid (R4.out.of_same (show (V4.setCell ⟨L, 2, none⟩ (.int .i64 (4 + c.he + c.cl))).heap[w.heap.size + 1]? = _ from Below.heap_setCell _ _ _ _ (by show w.heap.size + 1 ≠ L; omega)))
  have B5 := Lib.hid (B4.out.setCell (p := ⟨L, 2, none⟩) (by show w.heap.size ≤ L; omega) (.int .i64 (4 + c.he + c.cl)))
  generalize V4.setCell ⟨L, 2, none⟩ (.int .i64 (4 + c.he + c.cl)) = V5 at *
  simp only [List.setIfInBounds_toArray, List.set_cons_zero, List.set_cons_succ] at L5
  clear c1 d1 k1 f1 L4 X4 R4 B4
  have c2 : V5.cell? ⟨L, 2, none⟩ = some (.int .i64 (4 + c.he + c.cl)) := L5.out.at_ 2
  have d2 : V5.cell? ⟨w.heap.size, 0, none⟩ = some (.int .i64 c.wo) := X5.out.at_ 0
  have k2 : V5.cell? ⟨L, 3, none⟩ = some (.int .i64 0) := L5.out.at_ 3
  have f2 := L5.out.free 3
  go_upto_region 8 with fail
  have L6 := Lib.hid (L5.out.put 3 (.int .i64 (4 + c.he + c.cl + c.wo)))
  have X6 := Lib.hid (X5.out.of_same (show (V5.setCell ⟨L, 3, none⟩ (.int .i64 (4 + c.he + c.cl + c.wo))).heap[w.heap.size]? = _ from Below.heap_setCell _ _ _ _ (by show w.heap.size ≠ L; omega)))
  have R6 := Lib.hid (R5.out.of_same (show (V5.setCell ⟨L, 3, none⟩ (.int .i64 (4 + c.he + c.cl + c.wo))).heap[w.heap.size + 1]? = _ from Below.heap_setCell _ _ _ _ (by show w.heap.size + 1 ≠ L; omega)))
  have B6 := Lib.hid (B5.out.setCell (p := ⟨L, 3, none⟩) (by show w.heap.size ≤ L; omega) (.int .i64 (4 + c.he + c.cl + c.wo)))
  generalize V5.setCell ⟨L, 3, none⟩ (.int .i64 (4 + c.he + c.cl + c.wo)) = V6 at *
  simp only [List.setIfInBounds_toArray, List.set_cons_zero, List.set_cons_succ] at L6
  clear c2 d2 k2 f2 L5 X5 R5 B5
  have c3 : V6.cell? ⟨L, 3, none⟩ = some (.int .i64 (4 + c.he + c.cl + c.wo)) := L6.out.at_ 3
  have d3 : V6.cell? ⟨w.heap.size, 0, none⟩ = some (.int .i64 c.wo) := X6.out.at_ 0
  have k3 : V6.cell? ⟨L, 4, none⟩ = some (.int .i64 0) := L6.out.at_ 4
  have f3 := L6.out.free 4
  go_upto_region 9 with fail
  have L7 := Lib.hid (L6.out.put 4 (.int .i64 (4 + c.he + c.cl + c.wo + c.wo)))
  have X7 := Lib.hid (X6.out.of_same (show (V6.setCell ⟨L, 4, none⟩ (.int .i64 (4 + c.he + c.cl + c.wo + c.wo))).heap[w.heap.size]? = _ from Below.heap_setCell _ _ _ _ (by show w.heap.size ≠ L; omega)))
  have R7 := Lib.hid (R6.out.of_same (show (V6.setCell ⟨L, 4, none⟩ (.int .i64 (4 + c.he + c.cl + c.wo + c.wo))).heap[w.heap.size + 1]? = _ from Below.heap_setCell _ _ _ _ (by show w.heap.size + 1 ≠ L; omega)))
  have B7 := Lib.hid (B6.out.setCell (p := ⟨L, 4, none⟩) (by show w.heap.size ≤ L; omega) (.int .i64 (4 + c.he + c.cl + c.wo + c.wo)))
  generalize V6.setCell ⟨L, 4, none⟩ (.int .i64 (4 + c.he + c.cl + c.wo + c.wo)) = V7 at *
  simp only [List.setIfInBounds_toArray, List.set_cons_zero, List.set_cons_succ] at L7
  clear c3 d3 k3 f3 L6 X6 R6 B6
  rw [← D2.out] at L7
  have LD := Lib.hid (show Blk V7.drew L 34 #[.int .i64 4, .int .i64 (4 + c.he), .int .i64 (4 + c.he + c.cl), .int .i64 (4 + c.he + c.cl + c.wo), .int .i64 D, .int .i64 0, .int .i64 0, .int .i64 c.le, .int .i64 c.de] from L7.out)
  have XD := Lib.hid (show Blk V7.drew w.heap.size 30 (cc c pa pn pc sa sn sc) from X7.out)
  have RD := Lib.hid (show Blk V7.drew (w.heap.size + 1) 34 lz from R7.out)
  have BD := Lib.hid (below_drew B7.out)
  have s0 := S0.out
  have s3 := S3.out
  have s4 := S4.out
  have hde := HIN.out.de
  have hst : ∀ u u' : World, NewS w c pa pn pc sa sn sc L #[.int .i64 4, .int .i64 (4 + c.he), .int .i64 (4 + c.he + c.cl), .int .i64 (4 + c.he + c.cl + c.wo), .int .i64 D, .int .i64 0, .int .i64 0, .int .i64 c.le, .int .i64 c.de] u → Below u.heap.size u u' → NewS w c pa pn pc sa sn sc L #[.int .i64 4, .int .i64 (4 + c.he), .int .i64 (4 + c.he + c.cl), .int .i64 (4 + c.he + c.cl + c.wo), .int .i64 D, .int .i64 0, .int .i64 0, .int .i64 c.le, .int .i64 c.de] u' := fun u u' h b => ⟨h.l.below b, h.x.below b, h.r.below b, h.b.trans (b.mono h.b.size)⟩
  have HST := Lib.hid hst
  have hS0 : NewS w c pa pn pc sa sn sc L #[.int .i64 4, .int .i64 (4 + c.he), .int .i64 (4 + c.he + c.cl), .int .i64 (4 + c.he + c.cl + c.wo), .int .i64 D, .int .i64 0, .int .i64 0, .int .i64 c.le, .int .i64 c.de] V7.drew := ⟨LD.out, XD.out, RD.out, BD.out⟩
  clear hst
  refine wp_region_any (by kernel_rfl) ?_
  change wpAny _ _ _ _ 13 #[false, false, false, false, false, false, false, false, false, false, false, false, false] _ (World.drew _)
  refine wpAny_part (S := NewS w c pa pn pc sa sn sc L #[.int .i64 4, .int .i64 (4 + c.he), .int .i64 (4 + c.he + c.cl), .int .i64 (4 + c.he + c.cl + c.wo), .int .i64 D, .int .i64 0, .int .i64 0, .int .i64 c.le, .int .i64 c.de]) 9 [0, 1, 2, 3, 4, 5, 6, 7, 8, 9, 10, 11] 1 #[true, true, true, true, true, true, true, true, true, true, true, true, false] (by rfl) (by kernel_rfl) (by kernel_rfl) (by kernel_rfl) (by decide) (by kernel_rfl) (by rfl) hS0 ?_
  refine SeqS.valD (v := .pointer (some ⟨L, 4, none⟩)) 41 rfl (by kernel_rfl) (Or.inl ⟨by kernel_rfl, fun u hu => by (go_simp)⟩) ?_
  simp only [List.setIfInBounds_toArray, List.set_cons_zero, List.set_cons_succ]
  refine SeqS.valD (v := .int .i64 D) 42 rfl (by kernel_rfl) (Or.inl ⟨by kernel_rfl, fun u hu => by (have k := hu.l.at_ 4; go_simp)⟩) ?_
  simp only [List.setIfInBounds_toArray, List.set_cons_zero, List.set_cons_succ]
  refine SeqS.valD (v := .pointer (some ⟨w.heap.size, 0, none⟩)) 43 rfl (by kernel_rfl) (Or.inl ⟨by kernel_rfl, fun u hu => by (go_simp)⟩) ?_
  simp only [List.setIfInBounds_toArray, List.set_cons_zero, List.set_cons_succ]
  refine SeqS.valD (v := .int .i64 c.wo) 44 rfl (by kernel_rfl) (Or.inl ⟨by kernel_rfl, fun u hu => by (have k := hu.x.at_ 0; go_simp)⟩) ?_
  simp only [List.setIfInBounds_toArray, List.set_cons_zero, List.set_cons_succ]
  refine SeqS.valD (v := .pointer (some ⟨w.heap.size, 1, none⟩)) 45 rfl (by kernel_rfl) (Or.inl ⟨by kernel_rfl, fun u hu => by (go_simp)⟩) ?_
  simp only [List.setIfInBounds_toArray, List.set_cons_zero, List.set_cons_succ]
  refine SeqS.valD (v := .int .i64 c.le) 46 rfl (by kernel_rfl) (Or.inl ⟨by kernel_rfl, fun u hu => by (have k := hu.x.at_ 1; go_simp)⟩) ?_
  simp only [List.setIfInBounds_toArray, List.set_cons_zero, List.set_cons_succ]
  refine SeqS.valD (v := .int .i64 P0) 47 rfl (by kernel_rfl) (Or.inl ⟨by kernel_rfl, fun u hu => by (go_simp)⟩) ?_
  simp only [List.setIfInBounds_toArray, List.set_cons_zero, List.set_cons_succ]
  refine SeqS.valD (v := .agg #[.int .i64 4, .int .i64 (4 + c.he), .int .i64 (4 + c.he + c.cl), .int .i64 (4 + c.he + c.cl + c.wo), .int .i64 D, .int .i64 0, .int .i64 0, .int .i64 c.le, .int .i64 c.de]) 48 rfl (by kernel_rfl) (yields_row (by kernel_rfl) _ _ rfl L (by kernel_rfl) 34 _ (fun u hu => hu.l) _ Tryz.underlying34 rfl (by kernel_rfl)) ?_
  simp only [List.setIfInBounds_toArray, List.set_cons_zero, List.set_cons_succ]
  refine SeqS.callD 49 (.int .i64 (2 + c.de)) rfl (by kernel_rfl) (by kernel_rfl) (fun u hu K hK => ?_) ?_
  · go_simp
    go_at_call 22
    (with_reducible refine (lqueuecells_any _ _ _ _ _ _ _ _ _ hde).mono ?_)
    rintro e u1 ⟨rfl, b⟩
    exact hK.out _ _ (by kernel_rfl) (HST.out _ _ hu b)
  simp only [List.setIfInBounds_toArray, List.set_cons_zero, List.set_cons_succ]
  refine SeqS.valD (v := .int .i64 P1) 50 rfl (by kernel_rfl) (Or.inl ⟨by kernel_rfl, fun u hu => by (go_simp)⟩) ?_
  simp only [List.setIfInBounds_toArray, List.set_cons_zero, List.set_cons_succ]
  refine SeqS.valD (v := .int .i64 (D + P1)) 51 rfl (by kernel_rfl) (Or.inl ⟨by kernel_rfl, fun u hu => by (go_simp)⟩) ?_
  simp only [List.setIfInBounds_toArray, List.set_cons_zero, List.set_cons_succ]
  refine SeqS.valD (v := .pointer (some ⟨L, 5, none⟩)) 52 rfl (by kernel_rfl) (Or.inl ⟨by kernel_rfl, fun u hu => by (go_simp)⟩) ?_
  simp only [List.setIfInBounds_toArray, List.set_cons_zero, List.set_cons_succ]
  refine SeqS.done ?_
  intro W5 hW
  have k5 := hW.l.at_ 5
  have f5 := hW.l.free 5
  refine wpAny_one (i := 12) (by kernel_rfl) rfl (by kernel_rfl) (fun K hK => ?_)
  go_simp
  refine hK.out _ _ ?_
  clear hK K
  refine wpAny_done (by kernel_rfl) ?_ _
  have L8 := Lib.hid (hW.l.put 5 (.int .i64 (D + P1)))
  have X8 := Lib.hid (hW.x.of_same (show (W5.setCell ⟨L, 5, none⟩ (.int .i64 (D + P1))).heap[w.heap.size]? = _ from Below.heap_setCell _ _ _ _ (by show w.heap.size ≠ L; omega)))
  have R8 := Lib.hid (hW.r.of_same (show (W5.setCell ⟨L, 5, none⟩ (.int .i64 (D + P1))).heap[w.heap.size + 1]? = _ from Below.heap_setCell _ _ _ _ (by show w.heap.size + 1 ≠ L; omega)))
  have B8 := Lib.hid (hW.b.setCell (p := ⟨L, 5, none⟩) (by show w.heap.size ≤ L; omega) (.int .i64 (D + P1)))
  generalize W5.setCell ⟨L, 5, none⟩ (.int .i64 (D + P1)) = V8 at *
  simp only [List.setIfInBounds_toArray, List.set_cons_zero, List.set_cons_succ] at L8
  clear hW k5 f5 s0 s3 s4
  have c5 : V8.cell? ⟨L, 5, none⟩ = some (.int .i64 (D + P1)) := L8.out.at_ 5
  have d3 : V8.cell? ⟨w.heap.size, 3, none⟩ = some (.int .i64 c.ta) := X8.out.at_ 3
  have k6 : V8.cell? ⟨L, 6, none⟩ = some (.int .i64 0) := L8.out.at_ 6
  have f6 := L8.out.free 6
  go_upto_region 11 with fail
  have L9 := Lib.hid (L8.out.put 6 (.int .i64 (D + P1 + c.ta * 5)))
  have X9 := Lib.hid (X8.out.of_same (show (V8.setCell ⟨L, 6, none⟩ (.int .i64 (D + P1 + c.ta * 5))).heap[w.heap.size]? = _ from Below.heap_setCell _ _ _ _ (by show w.heap.size ≠ L; omega)))
  have R9 := Lib.hid (R8.out.of_same (show (V8.setCell ⟨L, 6, none⟩ (.int .i64 (D + P1 + c.ta * 5))).heap[w.heap.size + 1]? = _ from Below.heap_setCell _ _ _ _ (by show w.heap.size + 1 ≠ L; omega)))
  have B9 := Lib.hid (B8.out.setCell (p := ⟨L, 6, none⟩) (by show w.heap.size ≤ L; omega) (.int .i64 (D + P1 + c.ta * 5)))
  generalize V8.setCell ⟨L, 6, none⟩ (.int .i64 (D + P1 + c.ta * 5)) = V9 at *
  simp only [List.setIfInBounds_toArray, List.set_cons_zero, List.set_cons_succ] at L9
  clear c5 d3 k6 f6 L8 X8 R8 B8
  obtain ⟨c0, c1, c2, c3, c4, c5, c6, c7, c8⟩ := (⟨L9.out.at_ 0, L9.out.at_ 1, L9.out.at_ 2, L9.out.at_ 3, L9.out.at_ 4, L9.out.at_ 5, L9.out.at_ 6, L9.out.at_ 7, L9.out.at_ 8⟩ : _ ∧ _ ∧ _ ∧ _ ∧ _ ∧ _ ∧ _ ∧ _ ∧ _)
  have hr := R9.out
  obtain ⟨e0, e1, e2, e3, e4, e5, e6, e7, e8⟩ := (⟨hr.at_ 0, hr.at_ 1, hr.at_ 2, hr.at_ 3, hr.at_ 4, hr.at_ 5, hr.at_ 6, hr.at_ 7, hr.at_ 8⟩ : _ ∧ _ ∧ _ ∧ _ ∧ _ ∧ _ ∧ _ ∧ _ ∧ _)
  obtain ⟨f0, f1, f2, f3, f4, f5, f6, f7, f8⟩ := (⟨hr.free 0, hr.free 1, hr.free 2, hr.free 3, hr.free 4, hr.free 5, hr.free 6, hr.free 7, hr.free 8⟩ : _ ∧ _ ∧ _ ∧ _ ∧ _ ∧ _ ∧ _ ∧ _ ∧ _)
  simp only [List.getElem?_toArray, List.getElem?_cons_zero, List.getElem?_cons_succ] at c0 c1 c2 c3 c4 c5 c6 c7 c8 e0 e1 e2 e3 e4 e5 e6 e7 e8
  clear hr
  go_wp2
  refine bodyPost_ret (results_row_tmp (P := Tryz.prog) Tryz.results11 _ _ (w.heap.size + 1) 34 _ (0, 0) _ rfl (R9.out.put9 (.int .i64 4) (.int .i64 (4 + c.he)) (.int .i64 (4 + c.he + c.cl)) (.int .i64 (4 + c.he + c.cl + c.wo)) (.int .i64 D) (.int .i64 (D + P1)) (.int .i64 (D + P1 + c.ta * 5)) (.int .i64 c.le) (.int .i64 c.de)) Tryz.underlying34 rfl (by kernel_rfl)) rfl ?_
  refine ⟨?_, B9.out.trans ?_⟩
  · show Ending.returned (.tuple #[.agg #[.int .i64 4, .int .i64 (4 + c.he), .int .i64 (4 + c.he + c.cl), .int .i64 (4 + c.he + c.cl + c.wo), .int .i64 D, .int .i64 (D + P1), .int .i64 (D + P1 + c.ta * 5), .int .i64 c.le, .int .i64 c.de], _]) = .returned (.tuple #[.agg (lcells c), _])
    rw [HLV.out, HC.out]
    rfl
  · exact (fr9 V9 (w.heap.size + 1) _ _ _ _ _ _ _ _ _).below B9.out.size (fun k hk => by simp at hk; omega)
theorem new_any {w : World} {B : Nat} {c : Cfg} {pa : Option Addr} {pn : Nat} {sa : Option Addr} {sn : Nat} (h : Lists w B c pa pn sa sn) (pc sc : Nat) :
    Calls Tryz.prog 11 #[cv c pa pn pc sa sn sc] w (NewL c w) := by
  by_cases hc : chk c = 0
  · exact new_yes h pc sc hc
  · exact new_no h pc sc hc
end Go.Proofs.YtgipddeldddbnaaGreat
