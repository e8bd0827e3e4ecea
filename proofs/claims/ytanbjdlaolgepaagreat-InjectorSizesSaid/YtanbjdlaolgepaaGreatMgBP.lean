/-
  The laws of injector: the environment with its events, the chapter's example.
  The laws of injector: the chapter's example.
  A step of the reference's machine beside the program's environment. (Rests on Step8 alone.)
-/
import Derived.Test.YtanbjdlaolgepaaGreatMgBM
import Derived.Test.YtanbjdlaolgepaaGreatMgBO
import Derived.Test.YtanbjdlaolgepaaGreatDuo
import Derived.Test.YtanbjdlaolgepaaGreatMgAK
import Derived.Test.YtanbjdlaolgepaaGreatMgAG
namespace Go.Proofs.YtanbjdlaolgepaaGreat
open Go Go.RowKit Go.Shelf
set_option linter.unusedSimpArgs false
set_option linter.unusedVariables false

/-- An environment of the program with the configuration c, made behind w0. -/
structure EV (w0 : World) (p m k g cap : Nat) (c : Cfg) (hd : List Value) (rv ev : Value) (es : List Ev) (s : St) (w : World) : Prop where
  e : PE w p m k g cap s 0 0 hd rv ev
  v : OwnE w w0.heap.size ev es
  l : LayHd hd c
  i : CfgIn c
  u : s.U
  b : Below w0.heap.size w0 w
  lo : w0.heap.size ≤ p ∧ w0.heap.size ≤ m ∧ w0.heap.size ≤ k ∧ w0.heap.size ≤ g
section
variable {w0 w w' : World} {p m k g cap q : Nat} {c : Cfg} {hd : List Value} {rv ev ev' : Value} {es es' : List Ev} {s s' : St} {r : Res} {N : Nat} {e : Ending}
theorem EV.below (h : EV w0 p m k g cap c hd rv ev es s w) (hb : Below w.heap.size w w') : EV w0 p m k g cap c hd rv ev es s w' :=
  ⟨h.e.below hb, h.v.below hb, h.l, h.i, h.u, h.b.trans (hb.mono h.b.size), h.lo⟩
/-- A machine that was made behind w0 has run alone. -/
theorem EV.done (h : EV w0 p m k g cap c hd rv ev es s w) (hq : w0.heap.size ≤ q) (hp : PE w' p m k g cap s' 0 0 hd rv ev') (hv : OwnE w' w0.heap.size ev' es') (hf : Fr (p :: m :: g :: q :: ev.ownBlock.toList) w w') (hu : s'.U) : EV w0 p m k g cap c hd rv ev' es' s' w' :=
  ⟨hp, hv, h.l, h.i, hu, below_of_fr h.b hf (fun y hy => by
    simp only [List.mem_cons, Option.mem_toList] at hy
    have := h.lo
    rcases hy with rfl | rfl | rfl | rfl | hy
    · omega
    · omega
    · omega
    · omega
    · exact (h.v.lt y hy).1), h.lo⟩
end
theorem RunE_insU {c : Cfg} {s s' : St} {es es' : List Ev} {f : Fra} {r : Res} {n : Nat} (h : RunE (insE c) s es f s' es' r n) : s.U → InsOk f → s'.U := by
  induction h with
  | last _ => exact fun hs hx => ins_U hs hx.u
  | cons hd _ ih => exact fun hs hx => ih (ins_U hs hx.u) (ins_ok hs hx hd)
theorem RunE_remU {c : Cfg} (hin : CfgIn c) {s s' : St} {es es' : List Ev} {f : Fra} {r : Res} {n : Nat} (h : RunE (removeS c) s es f s' es' r n) : s.U → RemOk f → s'.U := by
  induction h with
  | last _ => exact fun hs hx => rem_U hs hx.u
  | cons hd _ ih => exact fun hs hx => ih (rem_U hs hx.u) (rem_ok hin hs hx hd)
/-- The steps of a machine, with so many at most. -/
def runE (stp : St → List Ev → Fra → St × List Ev × Fra × Res) : Nat → St → List Ev → Fra → Option (St × List Ev × Res × Nat)
  | 0, _, _, _ => none
  | n + 1, s, es, f => if (stp s es f).2.2.2.dn = true then some ((stp s es f).1, (stp s es f).2.1, (stp s es f).2.2.2, 1) else (runE stp n (stp s es f).1 (stp s es f).2.1 (stp s es f).2.2.1).map fun y => (y.1, y.2.1, y.2.2.1, y.2.2.2 + 1)
theorem RunE.of_run {stp : St → List Ev → Fra → St × List Ev × Fra × Res} : ∀ {n : Nat} {s s' : St} {es es' : List Ev} {f : Fra} {r : Res} {N : Nat}, runE stp n s es f = some (s', es', r, N) → RunE stp s es f s' es' r N ∧ N ≤ n
  | 0, _, _, _, _, _, _, _, h => by simp [runE] at h
  | n + 1, s, s', es, es', f, r, N, h => by
    unfold runE at h
    cases hd : (stp s es f).2.2.2.dn with
    | true =>
      rw [if_pos hd] at h
      simp only [Option.some.injEq, Prod.mk.injEq] at h
      obtain ⟨e1, e2, e3, e4⟩ := h
      rw [← e1, ← e2, ← e3, ← e4]
      exact ⟨.last hd, by omega⟩
    | false =>
      rw [if_neg (by rw [hd]; decide)] at h
      cases h2 : runE stp n (stp s es f).1 (stp s es f).2.1 (stp s es f).2.2.1 with
      | none => rw [h2] at h; simp at h
      | some y =>
        rw [h2] at h
        obtain ⟨a, b, d, z⟩ := y
        simp only [Option.map_some, Option.some.injEq, Prod.mk.injEq] at h
        obtain ⟨rfl, rfl, rfl, rfl⟩ := h
        have := RunE.of_run h2
        exact ⟨.cons hd this.1, by omega⟩
abbrev fraI (a b : Int) : Fra := { fra1 10 0 0 0 0 a with fb := b }
abbrev fraR (a : Int) : Fra := fra1 11 0 0 0 0 a
def aw16B : Bool :=
  match runE (insE (roomC 3)) 50 (St.new (rCells (roomC 3)).toNat) [] (fraI 9 0) with
  | some (s1, e1, r1, n1) =>
    match runE (insE (roomC 3)) 50 s1 e1 (fraI 4 1) with
    | some (s2, e2, r2, _) =>
      match runE (removeS (roomC 3)) 50 s2 e2 (fraR 0) with
      | some (s3, e3, r3, _) =>
        match runE (removeS (roomC 3)) 50 s3 e3 (fraR 0) with
        | some (_, e4, r4, n4) => r1.cd == 0 && n1 == 4 && r2.cd == 0 && r3.cd == 1 && r3.vl == 1 && r4.cd == 1 && r4.vl == 0 && n4 == 4 && e1.length == 0 && e2.length == 0 && e3.length == 1 && e4.length == 2
        | none => false
      | none => false
    | none => false
  | none => false
theorem aw16B_true : aw16B = true := by decide +kernel
theorem aw16_runs : ∃ s1 e1 r1 s2 e2 r2 n2 s3 e3 r3 n3 s4 e4 r4,
    (RunE (insE (roomC 3)) (St.new (rCells (roomC 3)).toNat) [] (fraI 9 0) s1 e1 r1 4 ∧ r1.cd = 0 ∧ e1.length = 0) ∧ (RunE (insE (roomC 3)) s1 e1 (fraI 4 1) s2 e2 r2 n2 ∧ n2 ≤ 50 ∧ r2.cd = 0 ∧ e2.length = 0) ∧
    (RunE (removeS (roomC 3)) s2 e2 (fraR 0) s3 e3 r3 n3 ∧ n3 ≤ 50 ∧ r3.cd = 1 ∧ r3.vl = 1 ∧ e3.length = 1) ∧ RunE (removeS (roomC 3)) s3 e3 (fraR 0) s4 e4 r4 4 ∧ r4.cd = 1 ∧ r4.vl = 0 ∧ e4.length = 2 := by
  have h := aw16B_true
  unfold aw16B at h
  split at h
  case h_2 => cases h
  rename_i s1 e1 r1 n1 h1
  split at h
  case h_2 => cases h
  rename_i s2 e2 r2 n2 h2
  split at h
  case h_2 => cases h
  rename_i s3 e3 r3 n3 h3
  split at h
  case h_2 => cases h
  rename_i s4 e4 r4 n4 h4
  simp only [Bool.and_eq_true, beq_iff_eq] at h
  obtain ⟨⟨⟨⟨⟨⟨⟨⟨⟨⟨⟨a1, a2⟩, a3⟩, a4⟩, a5⟩, a6⟩, a7⟩, a8⟩, a9⟩, a10⟩, a11⟩, a12⟩ := h
  subst a2
  subst a8
  exact ⟨s1, e1, r1, s2, e2, r2, n2, s3, e3, r3, n3, s4, e4, r4, ⟨(RunE.of_run h1).1, a1, a9⟩, ⟨(RunE.of_run h2).1, (RunE.of_run h2).2, a3, a10⟩, ⟨(RunE.of_run h3).1, (RunE.of_run h3).2, a4, a5, a11⟩, (RunE.of_run h4).1, a6, a7, a12⟩
end Go.Proofs.YtanbjdlaolgepaaGreat

namespace Go.Proofs.YtanbjdlaolgepaaGreat
open Go Go.RowKit Go.Shelf
set_option linter.unusedSimpArgs false
set_option linter.unusedVariables false

set_option maxRecDepth 100000 in
set_option maxHeartbeats 8000000 in
theorem awake16_any (w : World) : Calls Tryz.prog 8 #[] w fun e w' => e = .returned (.bool true) ∧ Below w.heap.size w w' := by
  obtain ⟨s1, e1, r1, s2, e2, r2, n2, s3, e3, r3, n3, s4, e4, r4, ⟨h1, c1, l1⟩, ⟨h2, m2, c2, l2⟩, ⟨h3, m3, c3, v3, l3⟩, h4, c4, v4, l4⟩ := aw16_runs
  have HR := Lib.hid (And.intro h1 (And.intro h2 (And.intro h3 h4)))
  have HM := Lib.hid (And.intro m2 m3)
  have HC := Lib.hid (And.intro c1 (And.intro c2 (And.intro (And.intro c3 v3) (And.intro c4 v4))))
  have HE := Lib.hid (And.intro l1 (And.intro l2 (And.intro l3 l4)))
  clear h1 h2 h3 h4 m2 m3 c1 c2 c3 v3 c4 v4 l1 l2 l3 l4
  have hroom := room_any 3 w
  rw [show ((3 : Nat) : Int) = 3 from rfl] at hroom
  have HT := Lib.hid hroom
  clear hroom
  go_enter Tryz.func8, Tryz.ntmps8
  go_wp2_with fail
  (with_reducible refine HT.out.mono ?_)
  rintro e w1 ⟨pa, pn, pc, sa, sn, sc, rfl, hl, hb1⟩
  have HL1 := Lib.hid hl
  have HB1 := Lib.hid hb1
  clear hl hb1 HT
  go_wp2_with fail
  (with_reducible refine (enew_any HL1.out pc sc (room_chk ⟨by decide, by decide⟩)).mono ?_)
  rintro e w2 ⟨p, m, k, g, hd, rv, rfl, hE⟩
  have E2 := Lib.hid (show EV w p m k g _ (roomC 3) hd rv (.slice none 0 0) [] _ w2 from ⟨hE.e, OwnE.nil _ _, hE.l, hE.i, hE.u, HB1.out.trans (hE.b.mono HB1.out.size), by have := hE.lo; have := HB1.out.size; omega⟩)
  have e20 := E2.out.e.at20
  clear hE HL1 HB1
  go_wp2_with fail
  (with_reducible refine (inserter_new 9 0 _).mono ?_)
  rintro e w3 ⟨b3, rfl, hv, hbl, hb⟩
  have E3 := Lib.hid (E2.out.below hb)
  have hA := alone_inserter (most := 50) E3.out.i E3.out.e E3.out.l hv E3.out.v E3.out.b.size (by simp) E3.out.u (insOk_new 10 9 0) HR.out.1 (by decide) (by decide)
  rw [show ((50 : Nat) : Int) = 50 from rfl] at hA
  have HA := Lib.hid hA
  have HBL := Lib.hid (Nat.le_trans E2.out.b.size hbl)
  clear hA hv hbl hb E2 e20
  go_wp2_with fail
  (with_reducible refine HA.out.mono ?_)
  rintro e w4 ⟨ev4, rfl, hp, hov, hat, hf⟩
  have E4 := Lib.hid (E3.out.done HBL.out hp hov hf (RunE_insU HR.out.1 E3.out.u (insOk_new 10 9 0)))
  clear hp hov hat hf HA HBL E3
  rw [show ((4 : Nat) : Int) = 4 from rfl, HC.out.1]
  go_wp2_with fail
  (with_reducible refine (inserter_new 4 1 _).mono ?_)
  rintro e w5 ⟨b5, rfl, hv, hbl, hb⟩
  have E5 := Lib.hid (E4.out.below hb)
  have hA := alone_inserter (most := 50) E5.out.i E5.out.e E5.out.l hv E5.out.v E5.out.b.size (by rw [HE.out.1]; decide) E5.out.u (insOk_new 10 4 1) HR.out.2.1 HM.out.1 (by decide)
  rw [show ((50 : Nat) : Int) = 50 from rfl] at hA
  have HA := Lib.hid hA
  have HBL := Lib.hid (Nat.le_trans E4.out.b.size hbl)
  clear hA hv hbl hb E4
  go_wp2_with fail
  (with_reducible refine HA.out.mono ?_)
  rintro e w6 ⟨ev6, rfl, hp, hov, hat, hf⟩
  have E6 := Lib.hid (E5.out.done HBL.out hp hov hf (RunE_insU HR.out.2.1 E5.out.u (insOk_new 10 4 1)))
  clear hp hov hat hf HA HBL E5
  rw [HC.out.2.1]
  go_wp2_with fail
  (with_reducible refine (remover_new 0 _).mono ?_)
  rintro e w7 ⟨b7, rfl, hv, hbl, hb⟩
  have E7 := Lib.hid (E6.out.below hb)
  have hA := alone_remover (most := 50) E7.out.i E7.out.e E7.out.l hv E7.out.v E7.out.b.size (by rw [HE.out.2.1]; decide) E7.out.u (remOk_new 11 0) HR.out.2.2.1 HM.out.2 (by decide)
  rw [show ((50 : Nat) : Int) = 50 from rfl] at hA
  have HA := Lib.hid hA
  have HBL := Lib.hid (Nat.le_trans E6.out.b.size hbl)
  clear hA hv hbl hb E6
  go_wp2_with fail
  (with_reducible refine HA.out.mono ?_)
  rintro e w8 ⟨ev8, rfl, hp, hov, hat, hf⟩
  have E8 := Lib.hid (E7.out.done HBL.out hp hov hf (RunE_remU (room_in ⟨by decide, by decide⟩) HR.out.2.2.1 E7.out.u (remOk_new 11 0)))
  clear hp hov hat hf HA HBL E7
  rw [HC.out.2.2.1.1, HC.out.2.2.1.2]
  go_wp2_with fail
  (with_reducible refine (remover_new 0 _).mono ?_)
  rintro e w9 ⟨b9, rfl, hv, hbl, hb⟩
  have E9 := Lib.hid (E8.out.below hb)
  have hA := alone_remover (most := 50) E9.out.i E9.out.e E9.out.l hv E9.out.v E9.out.b.size (by rw [HE.out.2.2.1]; decide) E9.out.u (remOk_new 11 0) HR.out.2.2.2 (by decide) (by decide)
  rw [show ((50 : Nat) : Int) = 50 from rfl] at hA
  have HA := Lib.hid hA
  have HBL := Lib.hid (Nat.le_trans E8.out.b.size hbl)
  clear hA hv hbl hb E8
  go_wp2_with fail
  (with_reducible refine HA.out.mono ?_)
  rintro e w10 ⟨ev10, rfl, hp, hov, hat, hf⟩
  have E10 := Lib.hid (E9.out.done HBL.out hp hov hf (RunE_remU (room_in ⟨by decide, by decide⟩) HR.out.2.2.2 E9.out.u (remOk_new 11 0)))
  clear hp hat hf HA HBL E9
  rw [show ((4 : Nat) : Int) = 4 from rfl, HC.out.2.2.2.1, HC.out.2.2.2.2]
  obtain ⟨va, vc, rfl⟩ := hov.formN HE.out.2.2.2
  have c23 : w10.cell? ⟨p, 23, none⟩ = some (.slice va 2 vc) := E10.out.e.at23
  go_wp2
  go_ret
  exact ⟨rfl, E10.out.b⟩
end Go.Proofs.YtanbjdlaolgepaaGreat

namespace Go.Proofs.YtanbjdlaolgepaaGreat
open Go Go.RowKit Go.Shelf
set_option linter.unusedSimpArgs false

theorem row_blk {w : World} {base : Nat} {t : TypeId} {s : Nat} {v : Value} {n : Nat} {vs : List Value} (h : w.ownsRow base t s v n vs) {j : Nat} (hj : v.ownBlock = some j) : ∃ cur, Blk w j t cur := by
  rcases h.2 with ⟨rfl, _⟩ | ⟨g, cap, cur, rfl, _, hg, _⟩
  · simp [Value.ownBlock] at hj
  · simp only [Value.ownBlock, Option.some.injEq] at hj
    subst hj
    exact ⟨cur, hg⟩
theorem Mach1.frm {B : Nat} {w w' : World} {m g cap : Nat} {post : List Value} {f : Fra} {S : List Nat} (h : Mach1 B w m g cap post f) (hf : Fr S w w') (h1 : m ∉ S) (h2 : g ∉ S) : Mach1 B w' m g cap post f :=
  ⟨h.blk.of_same (hf.block m h.blk.lt h1), h.fr.fr hf h2, h.bm, h.bg, h.hc⟩

section
variable {w w' : World} {B p m k g cap : Nat} {hd : List Value} {rv ev : Value} {q : Nat} {a : EnvA} {s s' s2 : St} {t t' d : Int} {es es2 : List Ev} {rs rs2 : List Rec}
/-- A block that a step of the reference's machine leaves alone. -/
theorem nin_gen {y gy : Nat} {cy cg : Array Value} (hy : Blk w y 100 cy) (hgy : Blk w gy 64 cg) (he : EnvF B w q a s es rs) {j : Nat} {tj : TypeId} {cj : Array Value} (hj : Blk w j tj cj) (h1 : tj ≠ 100) (h2 : tj ≠ 64) (h3 : tj ≠ 53)
    (h4 : tj = 46 → j ≠ a.g) (h5 : tj = 163 → a.ev.ownBlock ≠ some j) (h6 : tj = 119 → a.rv.ownBlock ≠ some j) : j ∉ y :: gy :: a.S q := by
  intro hm
  obtain ⟨ks, _, hrow, _⟩ := he.rc
  obtain ⟨cur, hb, _⟩ := he.m.row.blk
  simp only [EnvA.S, List.mem_cons, List.mem_append, Option.mem_toList] at hm
  rcases hm with rfl | rfl | rfl | rfl | hm | hm
  · exact h1 (ty_at hj hy)
  · exact h2 (ty_at hj hgy)
  · exact h3 (ty_at hj he.m.blk)
  · exact h4 (ty_at hj hb) rfl
  · obtain ⟨c5, hc5⟩ := row_blk he.ev hm
    exact h5 (ty_at hj hc5) hm
  · obtain ⟨c6, hc6⟩ := row_blk hrow hm
    exact h6 (ty_at hj hc6) hm
theorem Duo.ref (h : Duo w B p m k g cap hd rv ev q a s s2 t d es es2 rs rs2) {y gy : Nat} {cy cg : Array Value} (hy : Blk w y 100 cy) (hgy : Blk w gy 64 cg) {v : Value} {s2' : St} {es2' : List Ev} {rs2' : List Rec}
    (he : EnvF B w' q { a with ev := v } s2' es2' rs2') (hf : Fr (y :: gy :: a.S q) w w') (hv : ∀ x, v.ownBlock = some x → a.ev.ownBlock = some x ∨ w.heap.size ≤ x) : Duo w' B p m k g cap hd rv ev q { a with ev := v } s s2' t d es es2' rs rs2' := by
  obtain ⟨cur, hg, _⟩ := h.e.mem.row.blk
  have n1 := nin_gen hy hgy h.f h.e.blk (by decide) (by decide) (by decide) (fun e => absurd e (by decide)) (fun e => absurd e (by decide)) (fun e => absurd e (by decide))
  have n2 := nin_gen hy hgy h.f h.e.mem.blk (by decide) (by decide) (by decide) (fun e => absurd e (by decide)) (fun e => absurd e (by decide)) (fun e => absurd e (by decide))
  have n3 := nin_gen hy hgy h.f h.e.clk (by decide) (by decide) (by decide) (fun e => absurd e (by decide)) (fun e => absurd e (by decide)) (fun e => absurd e (by decide))
  have n4 := nin_gen hy hgy h.f hg (by decide) (by decide) (by decide) (fun _ => h.gg) (fun e => absurd e (by decide)) (fun e => absurd e (by decide))
  refine ⟨h.e.fr hf n1 n2 n3 n4, row_frS h.v hf (fun j hj => ?_), h.r.frS hf (fun j hj => ?_) (fun j cs hm hk => ?_), he, h.gg, fun x hx hx2 => ?_, h.rr, h.bp, h.bm, h.bk, h.bg⟩
  · obtain ⟨c5, hc5⟩ := row_blk h.v hj
    exact nin_gen hy hgy h.f hc5 (by decide) (by decide) (by decide) (fun e => absurd e (by decide)) (fun _ => h.vv j hj) (fun e => absurd e (by decide))
  · obtain ⟨ks, _, hrow, _⟩ := h.r
    obtain ⟨c5, hc5⟩ := row_blk hrow hj
    exact nin_gen hy hgy h.f hc5 (by decide) (by decide) (by decide) (fun e => absurd e (by decide)) (fun e => absurd e (by decide)) (fun _ => h.rr j hj)
  · exact nin_gen hy hgy h.f (show Blk w j 3 cs from hk) (by decide) (by decide) (by decide) (fun e => absurd e (by decide)) (fun e => absurd e (by decide)) (fun e => absurd e (by decide)) hm
  · rcases hv x hx2 with e | e
    · exact h.vv x hx e
    · have := (World.ownsRow.lt h.v x hx).2
      omega
end

/-- What the comparison of two machines carries along: two equal environments, the program's machine (block x) and the reference's (block y) at the same line. -/
structure MS (W0 : World) (ok : Fra → Prop) (kd : Int) (ty : TypeId) (B p m k g cap : Nat) (hd : List Value) (rv ev : Value) (q y gy cy : Nat) (pst : List Value) (d : Int) (es : List Ev) (rs : List Rec) (s : St) (f : Fra) (a : EnvA) (C T : Int) (x : Nat) (cx : Array Value) (w : World) : Prop where
  u : Duo w B p m k g cap hd rv ev q a s s a.now d es es rs rs
  bx : Blk w x ty cx
  my : Mach1 B w y gy cy pst f
  sn : s.N
  fo : ok f
  fk : f.kd = kd
  sc : 0 ≤ s.c ∧ s.c ≤ C
  tn : 0 ≤ a.now ∧ a.now ≤ T
  bb : Below W0.heap.size W0 w
  hx : B ≤ x
  hz : W0.heap.size = B
section
variable {W0 : World} {ok : Fra → Prop} {kd : Int} {ty : TypeId} {w w' : World} {B p m k g cap : Nat} {hd : List Value} {rv ev : Value} {q y gy cy : Nat} {pst : List Value} {d : Int} {es : List Ev} {rs : List Rec} {s s' : St} {f : Fra} {a : EnvA} {C T : Int} {x : Nat} {cx : Array Value}
theorem MS.below (h : MS W0 ok kd ty B p m k g cap hd rv ev q y gy cy pst d es rs s f a C T x cx w) (hb : Below w.heap.size w w') : MS W0 ok kd ty B p m k g cap hd rv ev q y gy cy pst d es rs s f a C T x cx w' :=
  ⟨h.u.below hb, h.bx.below hb, h.my.frm (Fr.old (S := []) hb) (by simp) (by simp), h.sn, h.fo, h.fk, h.sc, h.tn, h.bb.trans (hb.mono h.bb.size), h.hx, h.hz⟩
theorem MS.up (h : MS W0 ok kd ty B p m k g cap hd rv ev q y gy cy pst d es rs s f a C T x cx w) {C' T' : Int} (hc : C ≤ C') (ht : T ≤ T') : MS W0 ok kd ty B p m k g cap hd rv ev q y gy cy pst d es rs s f a C' T' x cx w :=
  ⟨h.u, h.bx, h.my, h.sn, h.fo, h.fk, ⟨h.sc.1, Int.le_trans h.sc.2 hc⟩, ⟨h.tn.1, Int.le_trans h.tn.2 ht⟩, h.bb, h.hx, h.hz⟩
/-- A cell has been changed in both. -/
theorem MS.dist (h : MS W0 ok kd ty B p m k g cap hd rv ev q y gy cy pst d es rs s f a C T x cx w) (ht : Odd ty) (hu : Duo w' B p m k g cap hd rv ev q a s' s' a.now d es es rs rs) (hn : s'.N) (h1 : s.c ≤ s'.c) (h2 : s'.c ≤ s.c + 1) (hf : Fr [m, g, q, a.g] w w') :
    MS W0 ok kd ty B p m k g cap hd rv ev q y gy cy pst d es rs s' f a (C + 1) T x cx w' := by
  obtain ⟨cur, hg, _⟩ := h.u.e.mem.row.blk
  obtain ⟨cur2, hg2, _⟩ := h.u.f.m.row.blk
  have nin : ∀ {j : Nat} {tj : TypeId} {cj : Array Value}, Blk w j tj cj → tj ≠ 127 → tj ≠ 46 → tj ≠ 53 → j ∉ [m, g, q, a.g] := by
    intro j tj cj hj e1 e2 e3 hm
    simp only [List.mem_cons, List.not_mem_nil, or_false] at hm
    rcases hm with rfl | rfl | rfl | rfl
    · exact e1 (ty_at hj h.u.e.mem.blk)
    · exact e2 (ty_at hj hg)
    · exact e3 (ty_at hj h.u.f.m.blk)
    · exact e2 (ty_at hj hg2)
  refine ⟨hu, h.bx.of_same (hf.block x h.bx.lt (nin h.bx ht.t2 ht.t4 ht.t5)), h.my.frm hf (nin h.my.blk (by decide) (by decide) (by decide)) (nin h.my.fr.blk (by decide) (by decide) (by decide)), hn, h.fo, h.fk, ?_, h.tn, ?_, h.hx, h.hz⟩
  · have := h.sc
    omega
  · have hz := h.hz
    have hsz := h.bb.size
    refine h.bb.trans (hf.below hsz (fun j hj => ?_))
    rw [hz]
    simp only [List.mem_cons, List.not_mem_nil, or_false] at hj
    rcases hj with rfl | rfl | rfl | rfl
    · exact h.u.bm
    · exact h.u.bg
    · exact h.u.f.hp
    · exact h.u.f.hg
/-- Both clocks tick. -/
theorem MS.tick (h : MS W0 ok kd ty B p m k g cap hd rv ev q y gy cy pst d es rs s f a C T x cx w) (ht : Odd ty) (hT : T ≤ 1000000) (hc : Clk w' k (wrap64 (a.now + 1)) d) (hf : Fr [k] w w') :
    MS W0 ok kd ty B p m k g cap hd rv ev q y gy cy pst d es rs s f { a with now := wrap64 (a.now + 1) } C (T + 1) x cx (w'.setCell ⟨q, 17, none⟩ (.int .i64 (wrap64 (a.now + 1)))) := by
  have hu := (h.u.tick hc hf).rnow (wrap64 (a.now + 1))
  have hs : Fr [q] w' (w'.setCell ⟨q, 17, none⟩ (.int .i64 (wrap64 (a.now + 1)))) := (Fr.refl _ _).setCell (by simp) _
  have hfr : Fr [k, q] w (w'.setCell ⟨q, 17, none⟩ (.int .i64 (wrap64 (a.now + 1)))) := (hf.mono (by simp)).trans (hs.mono (by simp))
  have nin : ∀ {j : Nat} {tj : TypeId} {cj : Array Value}, Blk w j tj cj → tj ≠ 130 → tj ≠ 53 → j ∉ [k, q] := by
    intro j tj cj hj e1 e2 hm
    simp only [List.mem_cons, List.not_mem_nil, or_false] at hm
    rcases hm with rfl | rfl
    · exact e1 (ty_at hj h.u.e.clk)
    · exact e2 (ty_at hj h.u.f.m.blk)
  refine ⟨hu, h.bx.of_same (hfr.block x h.bx.lt (nin h.bx ht.t3 ht.t5)), h.my.frm hfr (nin h.my.blk (by decide) (by decide)) (nin h.my.fr.blk (by decide) (by decide)), h.sn, h.fo, h.fk, h.sc, ?_, ?_, h.hx, h.hz⟩
  · show 0 ≤ wrap64 (a.now + 1) ∧ wrap64 (a.now + 1) ≤ T + 1
    have := h.tn
    unfold wrap64
    omega
  · have hz := h.hz
    refine h.bb.trans (hfr.below h.bb.size (fun j hj => ?_))
    rw [hz]
    simp only [List.mem_cons, List.not_mem_nil, or_false] at hj
    rcases hj with rfl | rfl
    · exact h.u.bk
    · exact h.u.f.hp
end
end Go.Proofs.YtanbjdlaolgepaaGreat
