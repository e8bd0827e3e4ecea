/-
  The laws of table: the chapter's example.
  Package parts: Run of a machine that runs another one, of any kind, given what the other one's step does.
-/
import Derived.Test.YtgipddeldddbnaaGreatTbL
import Derived.Test.YtgipddeldddbnaaGreatMgAN
import Derived.Test.YtgipddeldddbnaaGreatMgAM
import Derived.Shelf.Abstract
namespace Go.Proofs.YtgipddeldddbnaaGreat
open Go Go.RowKit Go.Shelf
set_option linter.unusedSimpArgs false
set_option linter.unusedVariables false

/-- What the example's machines do. -/
theorem aw18_runs : ∃ (c : Cfg) (x0 x1 x2 x3 x4 : St × List Rec × List Ev) (r4 : Res) (n4 : Nat) (x5 x6 : St × List Rec × List Ev) (e1 e2 : Ev),
    (decC (strm byt) = c ∧ x0 = (St.new (rCells c).toNat, newRs c.ta.toNat, [])) ∧ (((alcS c x0.1).1, x0.2) = x1 ∧ (alcS c x0.1).2 = ⟨true, 1, 0⟩) ∧ (((alcS c x1.1).1, x1.2) = x2 ∧ (alcS c x1.1).2 = ⟨true, 1, 1⟩) ∧
    (((alcS c x2.1).1, x2.2) = x3 ∧ (alcS c x2.1).2 = ⟨true, 3, 0⟩) ∧ (RunX (pubX c 0) x3 (fraPb 1 0) x4 r4 n4 ∧ n4 ≤ 5) ∧ ((clmX c x4 (fraCl 0 1)).1 = x5 ∧ (clmX c x4 (fraCl 0 1)).2.2 = ⟨true, 1, 1⟩) ∧
    ((clmX c x5 (fraCl 0 1)).1 = x6 ∧ (clmX c x5 (fraCl 0 1)).2.2 = ⟨true, 4, 0⟩) ∧ (x6.2.2 = [e1, e2] ∧ e1.kd = 5 ∧ e2.kd = 15) := by
  have h := aw18B_true
  generalize hc : decC (strm byt) = c at h
  unfold aw18B at h
  dsimp only at h
  split at h
  case h_2 => cases h
  rename_i y r n h1
  simp only [Bool.and_eq_true, beq_iff_eq] at h
  obtain ⟨⟨⟨⟨⟨a1, a2⟩, a3⟩, a4⟩, a5⟩, a9⟩ := h
  obtain ⟨l, hl⟩ : ∃ l, (clmX c (clmX c y (fraCl 0 1)).1 (fraCl 0 1)).1.2.2 = l := ⟨_, rfl⟩
  rw [hl] at a9
  obtain ⟨e1, l1, rfl⟩ : ∃ e1 l1, l = e1 :: l1 := by
    cases l with
    | nil => simp at a9
    | cons a b => exact ⟨a, b, rfl⟩
  obtain ⟨e2, l2, rfl⟩ : ∃ e2 l2, l1 = e2 :: l2 := by
    cases l1 with
    | nil => simp at a9
    | cons a b => exact ⟨a, b, rfl⟩
  simp only [List.map_cons, List.cons.injEq, List.map_eq_nil_iff] at a9
  obtain ⟨b1, b2, rfl⟩ := a9
  exact ⟨c, _, _, _, _, y, r, n, _, _, e1, e2, ⟨rfl, rfl⟩, ⟨rfl, resB_eq a1⟩, ⟨rfl, resB_eq a2⟩, ⟨rfl, resB_eq a3⟩, ⟨(RunX.of_run h1).1, (RunX.of_run h1).2⟩, ⟨rfl, resB_eq a4⟩, ⟨rfl, resB_eq a5⟩, hl, b1, b2⟩
set_option maxRecDepth 100000 in
set_option maxHeartbeats 8000000 in
theorem awake18_any (w : World) : Calls Tryz.prog 6 #[] w fun e w' => e = .returned (.bool true) ∧ Below w.heap.size w w' := by
  obtain ⟨c, x0, x1, x2, x3, x4, r4, n4, x5, x6, e1, e2, g0, g1, g2, g3, g4, g5, g6, g7⟩ := aw18_runs
  have G0 := Lib.hid g0
  have G1 := Lib.hid g1
  have G2 := Lib.hid g2
  have G3 := Lib.hid g3
  have G4 := Lib.hid g4
  have G5 := Lib.hid g5
  have G6 := Lib.hid g6
  have G7 := Lib.hid g7
  clear g0 g1 g2 g3 g4 g5 g6 g7
  have HI := Lib.hid (inB_made w #[.int .u8 0, .int .u8 0, .int .u8 0, .int .u8 1] byt (L := 4) rfl rfl (by intro z hz; simp only [List.mem_cons, List.not_mem_nil, or_false] at hz; omega) (by decide))
  have B0 := Lib.hid (below_one w (.cells #[.int .u8 0, .int .u8 0, .int .u8 0, .int .u8 1] 5))
  go_enter Tryz.func6, Tryz.ntmps6
  go_wp2_with fail
  (with_reducible refine (config_any HI.out 4).mono ?_)
  rintro e w1 ⟨u, rfl, hcfg, hb1⟩
  have hck := chk_dec (strm byt)
  rw [G0.out.1] at hcfg hck
  have HCK := Lib.hid hck
  obtain ⟨pa, pn, pc, sa, sn, sc, rfl, hl⟩ := hcfg.isCfg
  have hX := Blk.made w1 30 (cc c pa pn pc sa sn sc)
  have hbl := below_one w1 (.cells (cc c pa pn pc sa sn sc) 30)
  have HL := Lib.hid (hl.below hbl)
  have B1 := Lib.hid ((B0.out.trans (hb1.mono B0.out.size)).trans (hbl.mono (B0.out.trans (hb1.mono B0.out.size)).size))
  clear hcfg hl hb1 HI B0 hck hbl
  go_upto_region 2 with fail
  generalize w1.alloc (.cells (cc c pa pn pc sa sn sc) 30) = W1 at *
  obtain ⟨d0, d1, d2, d3, d4, d5, d6, d7, d8, d9, d10⟩ := eleven hX
  clear hX
  go_wp2_with fail
  (with_reducible refine (rnewed_any HL.out _ _ HCK.out).mono ?_)
  rintro e w2 ⟨p, m, k, g, hd, rv, rfl, hE⟩
  obtain ⟨ev0, ht0⟩ := hE.t
  have E2 := Lib.hid (show ER w p m k g (rCells c).toNat c hd rv 0 x0 w2 from by
    rw [G0.out.2]
    have := B1.out.size
    obtain ⟨t1, t2, t3, t4, t5⟩ := ht0
    exact ⟨⟨ev0, ⟨t1.e, t1.v.lower this, t1.r.lower this⟩, t2, t3, t4, by omega⟩, ⟨hE.c.l, hE.c.i, by have := hE.c.lo; omega⟩, B1.out.trans (hE.b.mono this)⟩)
  have e20 := E2.out.at20
  clear hE HL B1 ht0 d0 d1 d2 d3 d4 d5 d6 d7 d8 d9 d10
  generalize (rCells c).toNat = cap at *
  go_wp2_with fail
  (with_reducible refine (allocator_new _).mono ?_)
  rintro e u2 ⟨q2, rfl, hv, hbl, hb⟩
  have hA := alc_alone (most := 5) (E2.out.below hb) hv (Nat.le_trans E2.out.size hbl) (by decide)
  rw [G1.out.1, G1.out.2] at hA
  rw [show ((5 : Nat) : Int) = 5 from rfl] at hA
  have HA := Lib.hid hA
  clear hA hv hbl hb
  go_wp2_with fail
  (with_reducible refine HA.out.mono ?_)
  rintro e w3 ⟨rfl, hE⟩
  have E3 := Lib.hid hE
  clear hE HA e20
  go_wp2_with fail
  (with_reducible refine (allocator_new _).mono ?_)
  rintro e u3 ⟨q3, rfl, hv, hbl, hb⟩
  have hA := alc_alone (most := 5) (E3.out.below hb) hv (Nat.le_trans E3.out.size hbl) (by decide)
  rw [G2.out.1, G2.out.2] at hA
  rw [show ((5 : Nat) : Int) = 5 from rfl] at hA
  have HA := Lib.hid hA
  clear hA hv hbl hb
  go_wp2_with fail
  (with_reducible refine HA.out.mono ?_)
  rintro e w4 ⟨rfl, hE⟩
  have E4 := Lib.hid hE
  clear hE HA
  go_wp2_with fail
  (with_reducible refine (allocator_new _).mono ?_)
  rintro e u4 ⟨q4, rfl, hv, hbl, hb⟩
  have hA := alc_alone (most := 5) (E4.out.below hb) hv (Nat.le_trans E4.out.size hbl) (by decide)
  rw [G3.out.1, G3.out.2] at hA
  rw [show ((5 : Nat) : Int) = 5 from rfl] at hA
  have HA := Lib.hid hA
  clear hA hv hbl hb
  go_wp2_with fail
  (with_reducible refine HA.out.mono ?_)
  rintro e w5 ⟨rfl, hE⟩
  have E5 := Lib.hid hE
  clear hE HA
  go_wp2_with fail
  (with_reducible refine (publisher_new 1 0 _).mono ?_)
  rintro e u5 ⟨q5, rfl, hv, hbl, hb⟩
  have hA := pub_alone (most := 5) (E5.out.below hb) hv (Nat.le_trans E5.out.size hbl) G4.out.1 ⟨G4.out.2, by decide⟩
  rw [show ((5 : Nat) : Int) = 5 from rfl] at hA
  have HA := Lib.hid hA
  clear hA hv hbl hb
  go_wp2_with fail
  (with_reducible refine HA.out.mono ?_)
  rintro e w6 ⟨rfl, hE⟩
  have E6 := Lib.hid hE
  clear hE HA
  go_wp2_with fail
  (with_reducible refine (claimer_new 0 1 _).mono ?_)
  rintro e u6 ⟨q6, rfl, hv, hbl, hb⟩
  have hA := clm_alone (most := 5) (E6.out.below hb) hv (Nat.le_trans E6.out.size hbl) (by have := G4.out.2; omega) (by decide)
  rw [G5.out.1, G5.out.2] at hA
  rw [show ((5 : Nat) : Int) = 5 from rfl] at hA
  have HA := Lib.hid hA
  clear hA hv hbl hb
  go_wp2_with fail
  (with_reducible refine HA.out.mono ?_)
  rintro e w7 ⟨rfl, hE⟩
  have E7 := Lib.hid hE
  clear hE HA
  go_wp2_with fail
  (with_reducible refine (claimer_new 0 1 _).mono ?_)
  rintro e u7 ⟨q7, rfl, hv, hbl, hb⟩
  have hA := clm_alone (most := 5) (E7.out.below hb) hv (Nat.le_trans E7.out.size hbl) (by have := G4.out.2; omega) (by decide)
  rw [G6.out.1, G6.out.2] at hA
  rw [show ((5 : Nat) : Int) = 5 from rfl] at hA
  have HA := Lib.hid hA
  clear hA hv hbl hb
  go_wp2_with fail
  (with_reducible refine HA.out.mono ?_)
  rintro e w8 ⟨rfl, hE⟩
  have E8 := Lib.hid hE
  clear hE HA
  obtain ⟨ev, ht⟩ := E8.out.t
  have hv := ht.1.v
  rw [G7.out.1] at hv
  obtain ⟨va, vc, hve, hin⟩ := hv.inE
  obtain ⟨x, rfl, y0, _⟩ := hin.at_ (i := 0) (e := e1) rfl
  obtain ⟨x', hx', z0, _⟩ := hin.at_ (i := 1) (e := e2) rfl
  cases hx'
  rw [G7.out.2.1] at y0
  rw [G7.out.2.2] at z0
  have c23 : w8.cell? ⟨p, 23, none⟩ = some (.slice (some x) 2 vc) := by rw [ht.1.e.at23, hve]; rfl
  have y1 : w8.cell? (x.add 0) = some (.int .i64 5) := y0
  have y2 : w8.cell? x = some (.int .i64 5) := by rw [Nat.zero_mul, show x.add 0 = x from rfl] at y0; exact y0
  have z1 : w8.cell? (x.add 5) = some (.int .i64 15) := z0
  have z2 : w8.cell? ⟨x.block, x.off + 5, none⟩ = some (.int .i64 15) := z0
  clear hv hin ht hve
  go_wp2
  go_ret
  exact ⟨rfl, E8.out.b⟩
end Go.Proofs.YtgipddeldddbnaaGreat

namespace Go.Proofs.YtgipddeldddbnaaGreat
open Go Go.RowKit Go.Shelf
set_option linter.unusedSimpArgs false
set_option linter.unusedVariables false

theorem LB.inn' {w : World} {b : Nat} {ty : TypeId} {u : Value} {post : List Value} {f : Fra} {cd vl : Int} (h : LB w b ty (u :: post) f cd vl) : w.cell? ⟨b, 3, none⟩ = some u := by
  rw [h.blk.at_]
  rfl
theorem LB.putv' {w : World} {b : Nat} {ty : TypeId} {u : Value} {post : List Value} {f : Fra} {cd vl : Int} (h : LB w b ty (u :: post) f cd vl) (v : Value) : LB (w.setCell ⟨b, 3, none⟩ v) b ty (v :: post) f cd vl := by
  refine ⟨?_, h.t1, h.t2, h.t3, h.t4⟩
  have hb := h.blk.put 3 v
  simp only [List.cons_append, List.nil_append, List.setIfInBounds_toArray, List.set_cons_zero, List.set_cons_succ] at hb
  exact hb
/-- What a step of the inner machine q gives. -/
def InStep (b : Nat) (ty : TypeId) (u : Value) (post : List Value) (f : Fra) (q : Nat) (r : Res) (G : World → Prop) (e : Ending) (w' : World) : Prop :=
  e = .returned (.bool r.dn) ∧ LB w' b ty (u :: post) f 0 0 ∧ (r.dn = true → ∃ ty' post' f', LB w' q ty' post' f' r.cd r.vl) ∧ G w'
/-- What Run gives. -/
def RunG (b : Nat) (r : Res) (G : World → Prop) (e : Ending) (w' : World) : Prop :=
  (r.dn = true → e = .returned (.tuple #[.int .i64 r.cd, .int .i64 r.vl, .bool true]) ∧ ∃ w1 n, G w1 ∧ w' = (World.drewN w1 n).setCell ⟨b, 3, none⟩ .nilIface) ∧
  (r.dn = false → e = .returned (.tuple #[.int .i64 0, .int .i64 0, .bool false]) ∧ G w')
section
variable {w w' : World} {p b : Nat} {ty : TypeId} {post : List Value} {f : Fra} {pt : TypeId} {fs : Nat}
set_option maxRecDepth 100000 in
set_option maxHeartbeats 4000000 in
theorem run_on_gen {q : Nat} {r : Res} {G : World → Prop}
    (km : ∀ w : World, (method 281 pt (.pointer (some ⟨q, 0, none⟩)) "Step").run Tryz.prog w = .ok (fs, .pointer (some ⟨q, 0, none⟩)) w)
    (ka : ∀ w : World, (nilAhead 281 pt (.pointer (some ⟨q, 0, none⟩)) "Step").run Tryz.prog w = .ok (some false) w)
    (kr : ∀ w : World, (method 281 pt (.pointer (some ⟨q, 0, none⟩)) "Result").run Tryz.prog w = .ok (58, .pointer (some ⟨q, 0, none⟩)) w)
    (kb : ∀ w : World, (nilAhead 281 pt (.pointer (some ⟨q, 0, none⟩)) "Result").run Tryz.prog w = .ok (some false) w)
    (he : Enters Tryz.prog fs) (h : LB w b ty (.iface pt (.pointer (some ⟨q, 0, none⟩)) :: post) f 0 0) (fn : Value)
    (HS : Calls Tryz.prog fs #[.pointer (some ⟨q, 0, none⟩), .pointer (some ⟨p, 0, none⟩)] w (InStep b ty (.iface pt (.pointer (some ⟨q, 0, none⟩))) post f q r G)) :
    Calls Tryz.prog 68 #[.pointer (some ⟨b, 0, none⟩), .pointer (some ⟨p, 0, none⟩), fn] w (RunG b r G) := by
  have c3 := h.inn'
  have he' := fun (args : Array Value) (w : World) => he args w
  have HC := Lib.hid HS
  clear h HS he
  go_enter Tryz.func68, Tryz.ntmps68
  go_wp2_with fail
  (with_reducible refine HC.out.mono ?_)
  rintro e w3 ⟨rfl, hb3, hd3, hg3⟩
  have G3 := Lib.hid hg3
  have c33 := hb3.inn'
  have k33 := hb3.free 3
  cases hdn : r.dn with
  | false =>
    have HD := Lib.hid hdn
    clear hdn hd3 hb3 hg3
    go_wp2_with fail
    go_ret3
    exact ⟨fun h => absurd h (by rw [HD.out]; decide), fun _ => ⟨rfl, G3.out⟩⟩
  | true =>
    have HD := Lib.hid hdn
    obtain ⟨ty', post', f', hl⟩ := hd3 hdn
    have L3 := Lib.hid hl
    clear hdn hd3 hb3 hg3 hl
    go_wp2_with fail
    (with_reducible refine (lresult_any L3.out).mono ?_)
    rintro e w4 ⟨rfl, nd, rfl⟩
    have c34 : (w3.drewN nd).cell? ⟨b, 3, none⟩ = some _ := c33
    have k34 : (w3.drewN nd).frozen? ⟨b, 3, none⟩ = false := k33
    clear c33 k33
    generalize hw5 : w3.drewN nd = w5 at *
    have HW := Lib.hid hw5
    clear hw5
    go_wp2_with fail
    go_ret3
    exact ⟨fun _ => ⟨rfl, w3, nd, G3.out, by rw [HW.out]⟩, fun h => absurd h (by rw [HD.out]; decide)⟩
set_option maxRecDepth 100000 in
set_option maxHeartbeats 4000000 in
theorem run_first_gen {Made : Nat → World → Prop} {r : Res} {G : Nat → World → Prop}
    (km : ∀ (q : Nat) (w : World), (method 281 pt (.pointer (some ⟨q, 0, none⟩)) "Step").run Tryz.prog w = .ok (fs, .pointer (some ⟨q, 0, none⟩)) w)
    (ka : ∀ (q : Nat) (w : World), (nilAhead 281 pt (.pointer (some ⟨q, 0, none⟩)) "Step").run Tryz.prog w = .ok (some false) w)
    (kr : ∀ (q : Nat) (w : World), (method 281 pt (.pointer (some ⟨q, 0, none⟩)) "Result").run Tryz.prog w = .ok (58, .pointer (some ⟨q, 0, none⟩)) w)
    (kb : ∀ (q : Nat) (w : World), (nilAhead 281 pt (.pointer (some ⟨q, 0, none⟩)) "Result").run Tryz.prog w = .ok (some false) w)
    (he : Enters Tryz.prog fs) (h : LB w b ty (.nilIface :: post) f 0 0) {fk : Nat} {fc : Array Value} (hk : Enters Tryz.prog fk)
    (hf : Calls Tryz.prog fk fc w (fun e w1 => ∃ q : Nat, e = .returned (.iface pt (.pointer (some ⟨q, 0, none⟩))) ∧ LB w1 b ty (.nilIface :: post) f 0 0 ∧ Made q w1))
    (HS : ∀ (q : Nat) (w1 : World), Made q w1 → LB w1 b ty (.nilIface :: post) f 0 0 → Calls Tryz.prog fs #[.pointer (some ⟨q, 0, none⟩), .pointer (some ⟨p, 0, none⟩)] (w1.setCell ⟨b, 3, none⟩ (.iface pt (.pointer (some ⟨q, 0, none⟩)))) (InStep b ty (.iface pt (.pointer (some ⟨q, 0, none⟩))) post f q r (G q))) :
    Calls Tryz.prog 68 #[.pointer (some ⟨b, 0, none⟩), .pointer (some ⟨p, 0, none⟩), .func (.func fk) #[] fc] w (fun e w' => ∃ q, RunG b r (G q) e w') := by
  have c3 := h.inn'
  have he' := fun (args : Array Value) (w : World) => he args w
  have hk' := fun (args : Array Value) (w : World) => hk args w
  have HF := Lib.hid hf
  have HSS := Lib.hid HS
  have KM := Lib.hid (And.intro km (And.intro ka (And.intro kr kb)))
  clear h HS he hk hf km ka kr kb
  go_enter Tryz.func68, Tryz.ntmps68
  go_wp2_with fail
  (with_reducible refine HF.out.mono ?_)
  rintro e w1 ⟨q, rfl, hb1, hm1⟩
  have HC := Lib.hid (HSS.out q w1 hm1 hb1)
  have c31 := hb1.inn'
  have k31 := hb1.free 3
  have c32 := (hb1.putv' (.iface pt (.pointer (some ⟨q, 0, none⟩)))).inn'
  have km := KM.out.1 q
  have ka := KM.out.2.1 q
  have kr := KM.out.2.2.1 q
  have kb := KM.out.2.2.2 q
  clear hb1 hm1 c3
  go_wp2_with fail
  (with_reducible refine HC.out.mono ?_)
  rintro e w3 ⟨rfl, hb3, hd3, hg3⟩
  have G3 := Lib.hid hg3
  have c33 := hb3.inn'
  have k33 := hb3.free 3
  clear c31 k31 c32
  cases hdn : r.dn with
  | false =>
    have HD := Lib.hid hdn
    clear hdn hd3 hb3 hg3
    go_wp2_with fail
    go_ret3
    exact ⟨q, fun h => absurd h (by rw [HD.out]; decide), fun _ => ⟨rfl, G3.out⟩⟩
  | true =>
    have HD := Lib.hid hdn
    obtain ⟨ty', post', f', hl⟩ := hd3 hdn
    have L3 := Lib.hid hl
    clear hdn hd3 hb3 hg3 hl
    go_wp2_with fail
    (with_reducible refine (lresult_any L3.out).mono ?_)
    rintro e w4 ⟨rfl, nd, rfl⟩
    have c34 : (w3.drewN nd).cell? ⟨b, 3, none⟩ = some _ := c33
    have k34 : (w3.drewN nd).frozen? ⟨b, 3, none⟩ = false := k33
    clear c33 k33
    generalize hw5 : w3.drewN nd = w5 at *
    have HW := Lib.hid hw5
    clear hw5
    go_wp2_with fail
    go_ret3
    exact ⟨q, fun _ => ⟨rfl, w3, nd, G3.out, by rw [HW.out]⟩, fun h => absurd h (by rw [HD.out]; decide)⟩
end
end Go.Proofs.YtgipddeldddbnaaGreat
