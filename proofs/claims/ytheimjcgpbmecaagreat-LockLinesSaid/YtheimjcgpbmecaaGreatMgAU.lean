/-
  The match's Same: an environment of the program and one of the reference that are equal.
  An environment of the program beside one of the reference: what a step of one of them leaves of both. No function is named but those of MatchS.
-/
import Derived.Test.YtheimjcgpbmecaaGreatMgAR
import Derived.Test.YtheimjcgpbmecaaGreatMgAS
import Derived.Test.YtheimjcgpbmecaaGreatMgAF
import Derived.Test.YtheimjcgpbmecaaGreatMgAT
import Derived.Deep.RegionHeld3
import Derived.Test.YtheimjcgpbmecaaGreatMgAQ
namespace Go.Proofs.YtheimjcgpbmecaaGreat
open Go Go.RowKit Go.Shelf
set_option linter.unusedSimpArgs false

theorem eqFields_self (k : Nat) (vs : List Value) (u : World) : ∀ (fs : List Field) (is : List (TypeId × Nat)), fs.map (fun f => (f.name == "_", f.type, f.offset)) = is.map (fun i => (false, i.1, i.2)) →
    (∀ i ∈ is, ∃ v, vs[i.2]? = some v ∧ Tryz.prog.plainKey i.1 = true ∧ (Op.equalIn (k + 1) i.1 v v).run Tryz.prog u = .ok true u) → (Op.eqFields (k + 1) vs.toArray vs.toArray fs).run Tryz.prog u = .ok true u
  | [], [], _, _ => by simp [Op.eqFields]
  | [], _ :: _, h, _ => by simp at h
  | _ :: _, [], h, _ => by simp at h
  | f :: fs, i :: is, h, hl => by
    simp only [List.map_cons, List.cons.injEq, Prod.mk.injEq] at h
    obtain ⟨⟨hn, ht, ho⟩, hr⟩ := h
    obtain ⟨v, h1, h2, h3⟩ := hl i (by simp)
    have ih := eqFields_self k vs u fs is hr (fun j hj => hl j (by simp [hj]))
    have g : vs.toArray[f.offset]? = some v := by
      rw [ho]
      simpa using h1
    have hnm : f.name ≠ "_" := by simpa using hn
    have p1 := run_part_plain (P := Tryz.prog) u h2 g
    rw [← ht] at p1 h3
    simp only [Op.eqFields, hnm, ne_eq, not_false_eq_true, if_true, Sem.run_bind, p1, h3, Result.andThen_ok]
    simpa using ih
theorem qeq_u64 (k : Nat) (x : Int) (u : World) : (Op.equalIn (k + 1) 50 (.int .u64 x) (.int .u64 x)).run Tryz.prog u = .ok true u := by
  simp [Op.equalIn, run_underlying Tryz.underlying50]
theorem acc_eq (a b c d : Int) (u : World) : (binOp .eql 52 (.agg #[.int .i64 a, .int .i64 b, .int .u64 c, .int .u64 d]) (.agg #[.int .i64 a, .int .i64 b, .int .u64 c, .int .u64 d])).run Tryz.prog u = .ok (.bool true) u := by
  have h : (Op.equalIn 10000 52 (.agg #[.int .i64 a, .int .i64 b, .int .u64 c, .int .u64 d]) (.agg #[.int .i64 a, .int .i64 b, .int .u64 c, .int .u64 d])).run Tryz.prog u = .ok true u := by
    rw [show (10000 : Nat) = 9999 + 1 from rfl, run_equalIn_struct u 9999 52 _ _ (by kernel_rfl) (by kernel_rfl)]
    refine eqFields_self 9998 [.int .i64 a, .int .i64 b, .int .u64 c, .int .u64 d] u (Tryz.prog.fieldsOf 52).toList [(3, 0), (3, 1), (50, 2), (50, 3)] (by kernel_rfl) ?_
    have hp : Tryz.prog.plainKey 3 = true := by kernel_rfl
    have hp2 : Tryz.prog.plainKey 50 = true := by kernel_rfl
    have q1 : ∀ x, (Op.equalIn (9998 + 1) 3 (.int .i64 x) (.int .i64 x)).run Tryz.prog u = .ok true u := fun x => by
      have := qeq_int 9998 x x u
      rwa [beq_self_eq_true] at this
    intro i hi
    simp only [List.mem_cons, List.not_mem_nil, or_false] at hi
    rcases hi with rfl | rfl | rfl | rfl
    · exact ⟨_, rfl, hp, q1 a⟩
    · exact ⟨_, rfl, hp, q1 b⟩
    · exact ⟨_, rfl, hp2, qeq_u64 9998 c u⟩
    · exact ⟨_, rfl, hp2, qeq_u64 9998 d u⟩
  simp only [binOp, Op.equal, Op.maxDepth, Sem.run_bind, Sem.run_pure]
  rw [h]
  rfl

/-- An environment of the program (block p) and one of the reference (block q) that are equal. -/
structure Twin (w : World) (B p m k g cap : Nat) (hd : List Value) (rv ev : Value) (q : Nat) (a : EnvA) (s : St) (d : Int) (es : List Ev) (rs : List Rec) : Prop where
  e : PE w p m k g cap s a.now d hd rv ev
  v : OwnE w B ev es
  r : OwnR w B rv rs
  f : EnvF B w q a s es rs
theorem Twin.below {w w' : World} {B p m k g cap : Nat} {hd : List Value} {rv ev : Value} {q : Nat} {a : EnvA} {s : St} {d : Int} {es : List Ev} {rs : List Rec} (h : Twin w B p m k g cap hd rv ev q a s d es rs) (hb : Below w.heap.size w w') : Twin w' B p m k g cap hd rv ev q a s d es rs :=
  ⟨h.e.below hb, h.v.below hb, h.r.same (fun _ _ _ hk _ => hb.block _ (Array.getElem?_eq_some_iff.1 hk).1), h.f.below hb⟩

theorem keeprec_any {w : World} {v v' : Value} (h : Calls Tryz.prog 52 #[v, v'] w fun e w' => e = .returned (.bool true) ∧ Below w.heap.size w w') :
    Calls Tryz.prog 14 #[v, v'] w fun e w' => e = .returned (.bool true) ∧ Below w.heap.size w w' := by
  go_enter Tryz.func14, Tryz.ntmps14
  go_wp2_with fail
  (with_reducible refine h.mono ?_)
  rintro e w' ⟨rfl, hb⟩
  have HB := Lib.hid hb
  clear hb
  go_wp2
  go_ret
  exact ⟨rfl, HB.out⟩

/-- The cells that Same loads. -/
def SameC (p q m k : Nat) (ra : Option Addr) (rn rc : Nat) (va : Option Addr) (vn vc : Nat) (a : EnvA) (L : Nat) (s : St) (now : Int) (ra2 : Option Addr) (rc2 : Nat) (va2 : Option Addr) (vc2 : Nat) (w' : World) : Prop :=
  w'.cell? ⟨p, 20, none⟩ = some (.pointer (some ⟨m, 0, none⟩)) ∧ w'.cell? ⟨p, 21, none⟩ = some (.pointer (some ⟨k, 0, none⟩)) ∧ w'.cell? ⟨p, 22, none⟩ = some (.slice ra rn rc) ∧ w'.cell? ⟨p, 23, none⟩ = some (.slice va vn vc) ∧ w'.cell? ⟨q, 11, none⟩ = some (.slice (some ⟨a.g, 0, none⟩) L a.cap) ∧ w'.cell? ⟨q, 12, none⟩ = some (.int .i64 s.k) ∧ w'.cell? ⟨q, 13, none⟩ = some (.int .i64 s.i) ∧ w'.cell? ⟨q, 14, none⟩ = some (.int .u64 s.o) ∧ w'.cell? ⟨q, 15, none⟩ = some (.int .u64 s.v) ∧ w'.cell? ⟨q, 16, none⟩ = some (.int .i64 s.c) ∧ w'.cell? ⟨q, 17, none⟩ = some (.int .i64 now) ∧ w'.cell? ⟨q, 19, none⟩ = some (.slice ra2 rn rc2) ∧ w'.cell? ⟨q, 20, none⟩ = some (.slice va2 vn vc2)

set_option maxRecDepth 100000 in
set_option maxHeartbeats 8000000 in
theorem msame_any {w : World} {B p m k g cap : Nat} {hd : List Value} {rv ev : Value} {q : Nat} {a : EnvA} {s : St} {d : Int} {es : List Ev} {rs : List Rec} (h : Twin w B p m k g cap hd rv ev q a s d es rs) (hm : rs.length ≤ 1000000) :
    Calls Tryz.prog 42 #[.pointer (some ⟨p, 0, none⟩), .pointer (some ⟨q, 0, none⟩)] w fun e w' => e = .returned (.bool true) ∧ Below w.heap.size w w' := by
  obtain ⟨ra, rc, hr⟩ := h.r.form
  obtain ⟨va, vc, hv⟩ := h.v.form
  obtain ⟨ra2, rc2, hr2⟩ := h.f.rc.form
  obtain ⟨va2, vc2, hv2⟩ := h.f.ev.form
  obtain ⟨rn, hrn⟩ : ∃ rn, rs.length = rn := ⟨_, rfl⟩
  obtain ⟨vn, hvn⟩ : ∃ vn, es.length = vn := ⟨_, rfl⟩
  obtain ⟨L, hL⟩ : ∃ L, s.X.length = L := ⟨_, rfl⟩
  obtain ⟨now, hnow⟩ : ∃ now, a.now = now := ⟨_, rfl⟩
  rw [hrn] at hr hr2
  rw [hvn] at hv hv2
  have HT := Lib.hid (fun (W : World) (hW : Below w.heap.size w W) => h.below hW)
  have HC := Lib.hid (show ∀ W : World, Below w.heap.size w W → SameC p q m k ra rn rc va vn vc a L s now ra2 rc2 va2 vc2 W by
    intro W hW
    have h' := h.below hW
    unfold SameC
    rw [← hr, ← hv, ← hr2, ← hv2, ← hL, ← hnow]
    exact ⟨h'.e.at20, h'.e.at21, h'.e.at22, h'.e.at23, h'.f.m.blk.at_ 11, h'.f.m.blk.at_ 12, h'.f.m.blk.at_ 13, h'.f.m.blk.at_ 14, h'.f.m.blk.at_ 15, h'.f.m.blk.at_ 16, h'.f.m.blk.at_ 17, h'.f.m.blk.at_ 19, h'.f.m.blk.at_ 20⟩)
  have K1 := Lib.hid (show ∀ W : World, Below w.heap.size w W → Calls Tryz.prog 73 #[.pointer (some ⟨m, 0, none⟩)] W (fun e W' => ∃ g2 c2, e = .returned (.slice (some ⟨g2, 0, none⟩) L c2) ∧ Row W' g2 L c2 s.X ∧ Below w.heap.size w W') by
    intro W hW
    refine (cells_any (h.below hW).e.mem).mono ?_
    rintro e W' ⟨g2, c2, rfl, _, hrow, hb⟩
    rw [hL] at hrow ⊢
    exact ⟨g2, c2, rfl, hrow, hW.trans (hb.mono hW.size)⟩)
  have K2 := Lib.hid (show ∀ (W : World) (g2 c2 : Nat), Below w.heap.size w W → Row W g2 L c2 s.X → Calls Tryz.prog 72 #[.slice (some ⟨g2, 0, none⟩) L c2, .slice (some ⟨a.g, 0, none⟩) L a.cap] W (fun e W' => e = .returned (.bool true) ∧ Below w.heap.size w W') by
    intro W g2 c2 hW hrow
    have hr9 := (h.below hW).f.m.row
    rw [hL] at hr9
    refine (wsame_any hrow hr9).mono ?_
    rintro e W' ⟨rfl, d9, rfl⟩
    exact ⟨rfl, hW.trans ((below_drewN _ _).mono hW.size)⟩)
  have K3 := Lib.hid (show ∀ W : World, Below w.heap.size w W → Calls Tryz.prog 59 #[.pointer (some ⟨m, 0, none⟩)] W (fun e W' => e = .returned (.int .i64 s.c) ∧ Below w.heap.size w W') by
    intro W hW
    refine (count_any (h.below hW).e.mem).mono ?_
    rintro e W' ⟨rfl, rfl⟩
    exact ⟨rfl, hW⟩)
  have K4 := Lib.hid (show ∀ W : World, Below w.heap.size w W → Calls Tryz.prog 74 #[.pointer (some ⟨m, 0, none⟩)] W (fun e W' => e = .returned (.agg #[.int .i64 s.k, .int .i64 s.i, .int .u64 s.o, .int .u64 s.v]) ∧ Below w.heap.size w W') by
    intro W hW
    refine (last_any (h.below hW).e.mem).mono ?_
    rintro e W' ⟨rfl, hb⟩
    exact ⟨rfl, hW.trans (hb.mono hW.size)⟩)
  have K5 := Lib.hid (show ∀ W : World, Below w.heap.size w W → Calls Tryz.prog 75 #[.slice va vn vc, .slice va2 vn vc2] W (fun e W' => e = .returned (.bool true) ∧ Below w.heap.size w W') by
    intro W hW
    have h' := h.below hW
    obtain ⟨a1, c1, e1, i1⟩ := h'.v.inE
    obtain ⟨a2, c2, e2, i2⟩ := h'.f.ev.inE
    rw [hv] at e1
    rw [hv2] at e2
    rw [hvn] at e1 e2
    cases e1
    cases e2
    have hs := evsame_any i1 i2 vc vc2
    rw [hvn] at hs
    refine hs.mono ?_
    rintro e W' ⟨rfl, d9, rfl⟩
    rw [decide_eq_true rfl]
    exact ⟨rfl, hW.trans ((below_drewN _ _).mono hW.size)⟩)
  have K6 := Lib.hid (show ∀ W : World, Below w.heap.size w W → Calls Tryz.prog 14 #[.slice ra rn rc, .slice ra2 rn rc2] W (fun e W' => e = .returned (.bool true) ∧ Below w.heap.size w W') by
    intro W hW
    have h' := h.below hW
    have hs := recsame_any h'.r h'.f.rc hm
    rw [hr, hr2] at hs
    refine (keeprec_any hs).mono ?_
    rintro e W' ⟨rfl, hb⟩
    exact ⟨rfl, hW.trans (hb.mono hW.size)⟩)
  have K7 := Lib.hid (show ∀ W : World, Below w.heap.size w W → Calls Tryz.prog 20 #[.pointer (some ⟨k, 0, none⟩)] W (fun e W' => e = .returned (.int .i64 now) ∧ Below w.heap.size w W') by
    intro W hW
    have h' := h.below hW
    refine (now_any h'.e.clk).mono ?_
    rintro e W' ⟨rfl, rfl⟩
    rw [hnow]
    exact ⟨rfl, hW⟩)
  have hae := fun (W : World) => acc_eq s.k s.i s.o s.v W
  clear h hr hv hr2 hv2 hrn hvn hL hnow hm
  have hd0 : Below w.heap.size w w.drew := below_drew (Below.refl _ _)
  have c0 := HC.out w.drew hd0
  unfold SameC at c0
  go_enter Tryz.func42, Tryz.ntmps42
  go_wp2_with fail
  simp only [List.append]
  go_region_held3 (fun w' => w'.cell? ⟨p, 20, none⟩ = some (.pointer (some ⟨m, 0, none⟩)) ∧ w'.cell? ⟨p, 21, none⟩ = some (.pointer (some ⟨k, 0, none⟩)) ∧ w'.cell? ⟨p, 22, none⟩ = some (.slice ra rn rc) ∧ w'.cell? ⟨p, 23, none⟩ = some (.slice va vn vc) ∧ w'.cell? ⟨q, 11, none⟩ = some (.slice (some ⟨a.g, 0, none⟩) L a.cap) ∧ w'.cell? ⟨q, 12, none⟩ = some (.int .i64 s.k) ∧ w'.cell? ⟨q, 13, none⟩ = some (.int .i64 s.i) ∧ w'.cell? ⟨q, 14, none⟩ = some (.int .u64 s.o) ∧ w'.cell? ⟨q, 15, none⟩ = some (.int .u64 s.v) ∧ w'.cell? ⟨q, 16, none⟩ = some (.int .i64 s.c) ∧ w'.cell? ⟨q, 17, none⟩ = some (.int .i64 now) ∧ w'.cell? ⟨q, 19, none⟩ = some (.slice ra2 rn rc2) ∧ w'.cell? ⟨q, 20, none⟩ = some (.slice va2 vn vc2)) ((first | exact c7 | exact c6 | exact c5 | exact c4 | exact c3 | exact c2 | exact c1 | exact c0 | go_keep))
    (first
     | (go_at_call 73
        refine (K1.out _ hd0).mono ?_
        rintro e W1 ⟨g2, cg2, rfl, hrow, hd1⟩
        have c1 := HC.out W1 hd1
        unfold SameC at c1)
     | (go_at_call 72
        refine (K2.out _ _ _ hd1 hrow).mono ?_
        rintro e W2 ⟨rfl, hd2⟩
        have c2 := HC.out W2 hd2
        unfold SameC at c2)
     | (go_at_call 59
        refine (K3.out _ hd2).mono ?_
        rintro e W3 ⟨rfl, hd3⟩
        have c3 := HC.out W3 hd3
        unfold SameC at c3)
     | (go_at_call 74
        refine (K4.out _ hd3).mono ?_
        rintro e W4 ⟨rfl, hd4⟩
        have c4 := HC.out W4 hd4
        unfold SameC at c4)
     | (go_at_call 75
        refine (K5.out _ hd4).mono ?_
        rintro e W5 ⟨rfl, hd5⟩
        have c5 := HC.out W5 hd5
        unfold SameC at c5)
     | (go_at_call 14
        refine (K6.out _ hd5).mono ?_
        rintro e W6 ⟨rfl, hd6⟩
        have c6 := HC.out W6 hd6
        unfold SameC at c6)
     | (go_at_call 20
        refine (K7.out _ hd6).mono ?_
        rintro e W7 ⟨rfl, hd7⟩
        have c7 := HC.out W7 hd7
        unfold SameC at c7))
  go_wp2_with fail
  go_ret
  exact ⟨rfl, hd7⟩
end Go.Proofs.YtheimjcgpbmecaaGreat

namespace Go.Proofs.YtheimjcgpbmecaaGreat
open Go Go.RowKit Go.Shelf
set_option linter.unusedSimpArgs false

theorem EnvF.frS {S : List Nat} {B : Nat} {w w' : World} {p : Nat} {a : EnvA} {s : St} {es : List Ev} {rs : List Rec} (h : EnvF B w p a s es rs) (hf : Fr S w w') (h1 : p ∉ S) (h2 : a.g ∉ S)
    (h3 : ∀ (k : Nat) (cs : Array Value) (t : TypeId), k ∈ S → w.heap[k]? = some (Obj.cells cs t (0, 0)) → t ≠ 24 ∧ t ≠ 62 ∧ t ≠ 3) (h4 : ∀ k, k ∈ S → B ≤ k) : EnvF B w' p a s es rs := by
  obtain ⟨W0, e0, e1, e2⟩ := h.cf
  have hsz := e2.size
  refine ⟨h.m.fr hf h1 h2, h.ev.same (fun k cs hk => hf.block k (Array.getElem?_eq_some_iff.1 hk).1 (fun hm => (h3 k cs _ hm hk).1 rfl)), h.rc.same (fun k cs t hk ht => hf.block k (Array.getElem?_eq_some_iff.1 hk).1 (fun hm => ?_)), ⟨W0, e0, e1, e2.trans (hf.below (by omega) h4)⟩, h.hp, h.hg⟩
  rcases ht with rfl | rfl
  · exact (h3 k cs _ hm hk).2.1 rfl
  · exact (h3 k cs _ hm hk).2.2 rfl

/-- Types that no environment's block has. -/
structure Odd (t : TypeId) : Prop where
  t1 : t ≠ 47
  t2 : t ≠ 121
  t3 : t ≠ 119
  t4 : t ≠ 50
  t5 : t ≠ 56
  t6 : t ≠ 24
  t7 : t ≠ 62
  t8 : t ≠ 3

/-- An environment of the program (block p, state s) and one of the reference (block q, state s2); blocks from B on are theirs. -/
structure Duo (w : World) (B p m k g cap : Nat) (hd : List Value) (rv ev : Value) (q : Nat) (a : EnvA) (s s2 : St) (t d : Int) (es es2 : List Ev) (rs rs2 : List Rec) : Prop where
  e : PE w p m k g cap s t d hd rv ev
  v : OwnE w B ev es
  r : OwnR w B rv rs
  f : EnvF B w q a s2 es2 rs2
  gg : g ≠ a.g
  vv : ∀ x, ev.ownBlock = some x → a.ev.ownBlock ≠ some x
  rr : ∀ x, rv.ownBlock = some x → a.rv.ownBlock ≠ some x
  bp : B ≤ p
  bm : B ≤ m
  bk : B ≤ k
  bg : B ≤ g

section
variable {w w' : World} {B p m k g cap : Nat} {hd : List Value} {rv ev : Value} {q : Nat} {a : EnvA} {s s' s2 : St} {t t' d : Int} {es es2 : List Ev} {rs rs2 : List Rec}
theorem Duo.twin (h : Duo w B p m k g cap hd rv ev q a s s a.now d es es rs rs) : Twin w B p m k g cap hd rv ev q a s d es rs := ⟨h.e, h.v, h.r, h.f⟩
theorem Duo.below (h : Duo w B p m k g cap hd rv ev q a s s2 t d es es2 rs rs2) (hb : Below w.heap.size w w') : Duo w' B p m k g cap hd rv ev q a s s2 t d es es2 rs rs2 :=
  ⟨h.e.below hb, h.v.below hb, h.r.same (fun _ _ _ hk _ => hb.block _ (Array.getElem?_eq_some_iff.1 hk).1), h.f.below hb, h.gg, h.vv, h.rr, h.bp, h.bm, h.bk, h.bg⟩
theorem Duo.drewN (h : Duo w B p m k g cap hd rv ev q a s s2 t d es es2 rs rs2) (n : Nat) : Duo (w.drewN n) B p m k g cap hd rv ev q a s s2 t d es es2 rs rs2 := h.below (below_drewN w n)
theorem Duo.lowP (h : Duo w B p m k g cap hd rv ev q a s s2 t d es es2 rs rs2) : ∀ y, y ∈ [m, g] → B ≤ y := by
  intro y hy
  simp only [List.mem_cons, List.not_mem_nil, or_false] at hy
  rcases hy with rfl | rfl
  · exact h.bm
  · exact h.bg
theorem Duo.lowX (h : Duo w B p m k g cap hd rv ev q a s s2 t d es es2 rs rs2) {x : Nat} (hx : B ≤ x) : ∀ y, y ∈ [m, g, x] → B ≤ y := by
  intro y hy
  simp only [List.mem_cons, List.not_mem_nil, or_false] at hy
  rcases hy with rfl | rfl | rfl
  · exact h.bm
  · exact h.bg
  · exact hx
theorem Duo.lowR (h : Duo w B p m k g cap hd rv ev q a s s2 t d es es2 rs rs2) : ∀ y, y ∈ [q, a.g] → B ≤ y := by
  intro y hy
  simp only [List.mem_cons, List.not_mem_nil, or_false] at hy
  rcases hy with rfl | rfl
  · exact h.f.hp
  · exact h.f.hg
/-- A step of a machine of the program (block x), which makes accesses. -/
theorem Duo.prog (h : Duo w B p m k g cap hd rv ev q a s s2 t d es es2 rs rs2) {x : Nat} {tx : TypeId} {cx : Array Value} (hx : Blk w x tx cx) (ht : Odd tx) (hB : B ≤ x) (hp : PE w' p m k g cap s' t d hd rv ev) (hf : Fr [m, g, x] w w') :
    Duo w' B p m k g cap hd rv ev q a s' s2 t d es es2 rs rs2 := by
  obtain ⟨cur, hg, _⟩ := h.e.mem.row.blk
  obtain ⟨cur2, hg2, _⟩ := h.f.m.row.blk
  have hS : ∀ (j : Nat) (cs : Array Value) (tj : TypeId), j ∈ [m, g, x] → w.heap[j]? = some (Obj.cells cs tj (0, 0)) → tj ≠ 24 ∧ tj ≠ 62 ∧ tj ≠ 3 ∧ tj ≠ 56 := by
    intro j cs tj hj hk
    simp only [List.mem_cons, List.not_mem_nil, or_false] at hj
    rcases hj with rfl | rfl | rfl
    · rw [← ty_at h.e.mem.blk hk]
      exact ⟨by decide, by decide, by decide, by decide⟩
    · rw [← ty_at hg hk]
      exact ⟨by decide, by decide, by decide, by decide⟩
    · rw [← ty_at hx hk]
      exact ⟨ht.t6, ht.t7, ht.t8, ht.t5⟩
  refine ⟨hp, h.v.same (fun j cs hk => hf.block j (Array.getElem?_eq_some_iff.1 hk).1 (fun hm => (hS j cs _ hm hk).1 rfl)), h.r.same (fun j cs tj hk hte => hf.block j (Array.getElem?_eq_some_iff.1 hk).1 (fun hm => ?_)), ?_, h.gg, h.vv, h.rr, h.bp, h.bm, h.bk, h.bg⟩
  · rcases hte with rfl | rfl
    · exact (hS j cs _ hm hk).2.1 rfl
    · exact (hS j cs _ hm hk).2.2.1 rfl
  · refine h.f.frS hf (fun hm => (hS q _ _ hm h.f.m.blk).2.2.2 rfl) (fun hm => ?_) (fun j cs tj hm hk => ⟨(hS j cs tj hm hk).1, (hS j cs tj hm hk).2.1, (hS j cs tj hm hk).2.2.1⟩) (fun j hj => ?_)
    · simp only [List.mem_cons, List.not_mem_nil, or_false] at hm
      rcases hm with e | e | e
      · exact hg2.apart h.e.mem.blk (by decide) e
      · exact h.gg e.symm
      · exact hg2.apart hx (fun e => ht.t4 e.symm) e
    · simp only [List.mem_cons, List.not_mem_nil, or_false] at hj
      rcases hj with rfl | rfl | rfl
      · exact h.bm
      · exact h.bg
      · exact hB
/-- An access of the program's memory alone. -/
theorem Duo.pacc (h : Duo w B p m k g cap hd rv ev q a s s2 t d es es2 rs rs2) (hm : Mem w' m g cap s') (hf : Fr [m, g] w w') : Duo w' B p m k g cap hd rv ev q a s' s2 t d es es2 rs rs2 := by
  obtain ⟨cur, hg, _⟩ := h.e.mem.row.blk
  obtain ⟨cur2, hg2, _⟩ := h.f.m.row.blk
  have hS : ∀ (j : Nat) (cs : Array Value) (tj : TypeId), j ∈ [m, g] → w.heap[j]? = some (Obj.cells cs tj (0, 0)) → tj ≠ 24 ∧ tj ≠ 62 ∧ tj ≠ 3 ∧ tj ≠ 56 := by
    intro j cs tj hj hk
    simp only [List.mem_cons, List.not_mem_nil, or_false] at hj
    rcases hj with rfl | rfl
    · rw [← ty_at h.e.mem.blk hk]
      exact ⟨by decide, by decide, by decide, by decide⟩
    · rw [← ty_at hg hk]
      exact ⟨by decide, by decide, by decide, by decide⟩
  refine ⟨h.e.acc hm hf, h.v.same (fun j cs hk => hf.block j (Array.getElem?_eq_some_iff.1 hk).1 (fun hm => (hS j cs _ hm hk).1 rfl)), h.r.same (fun j cs tj hk hte => hf.block j (Array.getElem?_eq_some_iff.1 hk).1 (fun hm => ?_)), ?_, h.gg, h.vv, h.rr, h.bp, h.bm, h.bk, h.bg⟩
  · rcases hte with rfl | rfl
    · exact (hS j cs _ hm hk).2.1 rfl
    · exact (hS j cs _ hm hk).2.2.1 rfl
  · refine h.f.frS hf (fun hm => (hS q _ _ hm h.f.m.blk).2.2.2 rfl) (fun hm => ?_) (fun j cs tj hm hk => ⟨(hS j cs tj hm hk).1, (hS j cs tj hm hk).2.1, (hS j cs tj hm hk).2.2.1⟩) (fun j hj => ?_)
    · simp only [List.mem_cons, List.not_mem_nil, or_false] at hm
      rcases hm with e | e
      · exact hg2.apart h.e.mem.blk (by decide) e
      · exact h.gg e.symm
    · simp only [List.mem_cons, List.not_mem_nil, or_false] at hj
      rcases hj with rfl | rfl
      · exact h.bm
      · exact h.bg
/-- An access of the reference's memory alone. -/
theorem Duo.racc (h : Duo w B p m k g cap hd rv ev q a s s2 t d es es2 rs rs2) {s2' : St} (hm : EnvM w' q a s2') (hf : Fr [q, a.g] w w') : Duo w' B p m k g cap hd rv ev q a s s2' t d es es2 rs rs2 := by
  obtain ⟨cur, hg, _⟩ := h.e.mem.row.blk
  obtain ⟨cur2, hg2, _⟩ := h.f.m.row.blk
  have hS : ∀ (j : Nat) (cs : Array Value) (tj : TypeId), j ∈ [q, a.g] → w.heap[j]? = some (Obj.cells cs tj (0, 0)) → tj ≠ 24 ∧ tj ≠ 62 ∧ tj ≠ 3 := by
    intro j cs tj hj hk
    simp only [List.mem_cons, List.not_mem_nil, or_false] at hj
    rcases hj with rfl | rfl
    · rw [← ty_at h.f.m.blk hk]
      exact ⟨by decide, by decide, by decide⟩
    · rw [← ty_at hg2 hk]
      exact ⟨by decide, by decide, by decide⟩
  have n1 : p ∉ [q, a.g] := by simp only [List.mem_cons, List.not_mem_nil, or_false, not_or]; exact ⟨h.e.blk.apart h.f.m.blk (by decide), h.e.blk.apart hg2 (by decide)⟩
  have n2 : m ∉ [q, a.g] := by simp only [List.mem_cons, List.not_mem_nil, or_false, not_or]; exact ⟨h.e.mem.blk.apart h.f.m.blk (by decide), h.e.mem.blk.apart hg2 (by decide)⟩
  have n3 : k ∉ [q, a.g] := by simp only [List.mem_cons, List.not_mem_nil, or_false, not_or]; exact ⟨Blk.apart h.e.clk h.f.m.blk (by decide), Blk.apart h.e.clk hg2 (by decide)⟩
  have n4 : g ∉ [q, a.g] := by simp only [List.mem_cons, List.not_mem_nil, or_false, not_or]; exact ⟨hg.apart h.f.m.blk (by decide), h.gg⟩
  refine ⟨h.e.fr hf n1 n2 n3 n4, h.v.same (fun j cs hk => hf.block j (Array.getElem?_eq_some_iff.1 hk).1 (fun hm => (hS j cs _ hm hk).1 rfl)), h.r.same (fun j cs tj hk hte => hf.block j (Array.getElem?_eq_some_iff.1 hk).1 (fun hm => ?_)), h.f.acc hm hf, h.gg, h.vv, h.rr, h.bp, h.bm, h.bk, h.bg⟩
  rcases hte with rfl | rfl
  · exact (hS j cs _ hm hk).2.1 rfl
  · exact (hS j cs _ hm hk).2.2 rfl
/-- A block of another type has changed. -/
theorem Duo.odd (h : Duo w B p m k g cap hd rv ev q a s s2 t d es es2 rs rs2) {x : Nat} {tx : TypeId} {cx : Array Value} (hx : Blk w x tx cx) (ht : Odd tx) (hB : B ≤ x) (hf : Fr [x] w w') : Duo w' B p m k g cap hd rv ev q a s s2 t d es es2 rs rs2 := by
  obtain ⟨cur, hg, _⟩ := h.e.mem.row.blk
  have hp := h.e.fr hf (by simpa using h.e.blk.apart hx (fun e => ht.t1 e.symm)) (by simpa using h.e.mem.blk.apart hx (fun e => ht.t2 e.symm)) (by simpa using Blk.apart h.e.clk hx (fun e => ht.t3 e.symm)) (by simpa using hg.apart hx (fun e => ht.t4 e.symm))
  exact h.prog hx ht hB hp (hf.mono (by simp))
/-- The program's clock ticks. -/
theorem Duo.tick (h : Duo w B p m k g cap hd rv ev q a s s2 t d es es2 rs rs2) (hc : Clk w' k t' d) (hf : Fr [k] w w') : Duo w' B p m k g cap hd rv ev q a s s2 t' d es es2 rs rs2 := by
  obtain ⟨cur, hg, _⟩ := h.e.mem.row.blk
  obtain ⟨cur2, hg2, _⟩ := h.f.m.row.blk
  have hty : ∀ (cs : Array Value) (tj : TypeId), w.heap[k]? = some (Obj.cells cs tj (0, 0)) → 119 = tj := fun cs tj hk => ty_at h.e.clk hk
  have n1 : p ≠ k := h.e.hpk
  have n2 : m ≠ k := h.e.hkm.symm
  have n4 : g ≠ k := h.e.hkg.symm
  refine ⟨⟨h.e.blk.of_same (hf.block p h.e.blk.lt (by simpa using n1)), h.e.len, h.e.mem.fr hf (by simpa using n2) (by simpa using n4), hc⟩, h.v.same (fun j cs hk => hf.block j (Array.getElem?_eq_some_iff.1 hk).1 (fun hm => ?_)), h.r.same (fun j cs tj hk hte => hf.block j (Array.getElem?_eq_some_iff.1 hk).1 (fun hm => ?_)), ?_, h.gg, h.vv, h.rr, h.bp, h.bm, h.bk, h.bg⟩
  · simp only [List.mem_cons, List.not_mem_nil, or_false] at hm
    subst hm
    exact absurd (hty _ _ hk) (by decide)
  · simp only [List.mem_cons, List.not_mem_nil, or_false] at hm
    subst hm
    rcases hte with rfl | rfl
    · exact absurd (hty _ _ hk) (by decide)
    · exact absurd (hty _ _ hk) (by decide)
  · exact h.f.other h.e.clk h.bk (by decide) (by decide) (by decide) (by decide) (by decide) hf
/-- The reference's time is set. -/
theorem Duo.rnow (h : Duo w B p m k g cap hd rv ev q a s s2 t d es es2 rs rs2) (n : Int) : Duo (w.setCell ⟨q, 17, none⟩ (.int .i64 n)) B p m k g cap hd rv ev q { a with now := n } s s2 t d es es2 rs rs2 := by
  have hf : Fr [q] w (w.setCell ⟨q, 17, none⟩ (.int .i64 n)) := (Fr.refl _ _).setCell (by simp) _
  obtain ⟨cur, hg, _⟩ := h.e.mem.row.blk
  obtain ⟨cur2, hg2, _⟩ := h.f.m.row.blk
  obtain ⟨W0, e0, e1, e2⟩ := h.f.cf
  have hsz := e2.size
  have hty : ∀ (cs : Array Value) (tj : TypeId), w.heap[q]? = some (Obj.cells cs tj (0, 0)) → 56 = tj := fun cs tj hk => ty_at h.f.m.blk hk
  have hne : ∀ (j : Nat) (cs : Array Value) (tj : TypeId), w.heap[j]? = some (Obj.cells cs tj (0, 0)) → tj ≠ 56 → (w.setCell ⟨q, 17, none⟩ (.int .i64 n)).heap[j]? = w.heap[j]? := by
    intro j cs tj hk hn
    refine hf.block j (Array.getElem?_eq_some_iff.1 hk).1 (fun hm => ?_)
    simp only [List.mem_cons, List.not_mem_nil, or_false] at hm
    subst hm
    exact hn (hty _ _ hk).symm
  refine ⟨h.e.fr hf (by simpa using h.e.blk.apart h.f.m.blk (by decide)) (by simpa using h.e.mem.blk.apart h.f.m.blk (by decide)) (by simpa using Blk.apart h.e.clk h.f.m.blk (by decide)) (by simpa using hg.apart h.f.m.blk (by decide)),
    h.v.same (fun j cs hk => hne j cs _ hk (by decide)), h.r.same (fun j cs tj hk hte => hne j cs tj hk (by rcases hte with rfl | rfl <;> decide)), ⟨⟨h.f.m.blk.put 17 _, h.f.m.row.of_same (hne a.g _ _ hg2 (by decide)), h.f.m.small⟩, h.f.ev.same (fun j cs hk => hne j cs _ hk (by decide)), h.f.rc.same (fun j cs tj hk hte => hne j cs tj hk (by rcases hte with rfl | rfl <;> decide)), ⟨W0, e0, e1, e2.trans (hf.below (by omega) (fun j hj => ?_))⟩, h.f.hp, h.f.hg⟩, h.gg, h.vv, h.rr, h.bp, h.bm, h.bk, h.bg⟩
  simp at hj
  subst hj
  exact h.f.hp
end
end Go.Proofs.YtheimjcgpbmecaaGreat
