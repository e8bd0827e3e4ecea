/-
  The match's Same: an environment of the program and one of the reference that are equal.
-/
import Derived.Test.YtanbjdlaolgepaaGreatMgAN
import Derived.Test.YtanbjdlaolgepaaGreatMgAO
import Derived.Test.YtanbjdlaolgepaaGreatMgAF
import Derived.Test.YtanbjdlaolgepaaGreatRecSame
import Derived.Test.YtanbjdlaolgepaaGreatMgAQ
import Derived.Deep.RegionHeld3
namespace Go.Proofs.YtanbjdlaolgepaaGreat
open Go Go.RowKit Go.Shelf
set_option linter.unusedSimpArgs false

theorem eqFields_self (k : Nat) (vs : List Value) (u : World) : ∀ (fs : List Field) (is : List (TypeId × Nat)), fs.map (fun f => (f.name == "_", f.type, f.offset)) = is.map (fun i => (false, i.1, i.2)) →
    (∀ i ∈ is, ∃ v, vs[i.2]? = some v ∧ Tryz.prog.plainKey i.1 = true ∧ (Op.equalIn (k + 1) i.1 v v).run Tryz.prog u = .ok true u) → (Op.eqFields (k + 1) vs.toArray vs.toArray fs).run Tryz.prog u = .ok true u
  | [], [], _, _ => by simp [Op.eqFields]
  | [], _ :: _, h, _ => by simp at h
  | _ :: _, [], h, _ => by simp at h
  | f :: fs, i :: is, h, hl => by
    simp only [List.map_cons, List.cons.injEq, Prod.mk.injEq] at h
    obtain ⟨⟨hn, ht, ho⟩, hr⟩ := h
    obtain ⟨v, h1, h2, h3⟩ := hl i (by simp)
    have ih := eqFields_self k vs u fs is hr (fun j hj => hl j (by simp [hj]))
    have g : vs.toArray[f.offset]? = some v := by
      rw [ho]
      simpa using h1
    have hnm : f.name ≠ "_" := by simpa using hn
    have p1 := run_part_plain (P := Tryz.prog) u h2 g
    rw [← ht] at p1 h3
    simp only [Op.eqFields, hnm, ne_eq, not_false_eq_true, if_true, Sem.run_bind, p1, h3, Result.andThen_ok]
    simpa using ih
theorem qeq_u64 (k : Nat) (x : Int) (u : World) : (Op.equalIn (k + 1) 46 (.int .u64 x) (.int .u64 x)).run Tryz.prog u = .ok true u := by
  simp [Op.equalIn, run_underlying Tryz.underlying46]
theorem acc_eq (a b c d : Int) (u : World) : (binOp .eql 49 (.agg #[.int .i64 a, .int .i64 b, .int .u64 c, .int .u64 d]) (.agg #[.int .i64 a, .int .i64 b, .int .u64 c, .int .u64 d])).run Tryz.prog u = .ok (.bool true) u := by
  have h : (Op.equalIn 10000 49 (.agg #[.int .i64 a, .int .i64 b, .int .u64 c, .int .u64 d]) (.agg #[.int .i64 a, .int .i64 b, .int .u64 c, .int .u64 d])).run Tryz.prog u = .ok true u := by
    rw [show (10000 : Nat) = 9999 + 1 from rfl, run_equalIn_struct u 9999 49 _ _ (by kernel_rfl) (by kernel_rfl)]
    refine eqFields_self 9998 [.int .i64 a, .int .i64 b, .int .u64 c, .int .u64 d] u (Tryz.prog.fieldsOf 49).toList [(3, 0), (3, 1), (46, 2), (46, 3)] (by kernel_rfl) ?_
    have hp : Tryz.prog.plainKey 3 = true := by kernel_rfl
    have hp2 : Tryz.prog.plainKey 46 = true := by kernel_rfl
    have q1 : ∀ x, (Op.equalIn (9998 + 1) 3 (.int .i64 x) (.int .i64 x)).run Tryz.prog u = .ok true u := fun x => by
      have := qeq_int 9998 x x u
      rwa [beq_self_eq_true] at this
    intro i hi
    simp only [List.mem_cons, List.not_mem_nil, or_false] at hi
    rcases hi with rfl | rfl | rfl | rfl
    · exact ⟨_, rfl, hp, q1 a⟩
    · exact ⟨_, rfl, hp, q1 b⟩
    · exact ⟨_, rfl, hp2, qeq_u64 9998 c u⟩
    · exact ⟨_, rfl, hp2, qeq_u64 9998 d u⟩
  simp only [binOp, Op.equal, Op.maxDepth, Sem.run_bind, Sem.run_pure]
  rw [h]
  rfl

/-- An environment of the program (block p) and one of the reference (block q) that are equal. -/
structure Twin (w : World) (B p m k g cap : Nat) (hd : List Value) (rv ev : Value) (q : Nat) (a : EnvA) (s : St) (d : Int) (es : List Ev) (rs : List Rec) : Prop where
  e : PE w p m k g cap s a.now d hd rv ev
  v : OwnE w B ev es
  r : OwnR w B rv rs
  f : EnvF B w q a s es rs
theorem Twin.below {w w' : World} {B p m k g cap : Nat} {hd : List Value} {rv ev : Value} {q : Nat} {a : EnvA} {s : St} {d : Int} {es : List Ev} {rs : List Rec} (h : Twin w B p m k g cap hd rv ev q a s d es rs) (hb : Below w.heap.size w w') : Twin w' B p m k g cap hd rv ev q a s d es rs :=
  ⟨h.e.below hb, h.v.below hb, h.r.same (fun _ _ _ hk _ => hb.block _ (Array.getElem?_eq_some_iff.1 hk).1), h.f.below hb⟩

theorem keeprec_any {w : World} {v v' : Value} (h : Calls Tryz.prog 69 #[v, v'] w fun e w' => e = .returned (.bool true) ∧ Below w.heap.size w w') :
    Calls Tryz.prog 52 #[v, v'] w fun e w' => e = .returned (.bool true) ∧ Below w.heap.size w w' := by
  go_enter Tryz.func52, Tryz.ntmps52
  go_wp2_with fail
  (with_reducible refine h.mono ?_)
  rintro e w' ⟨rfl, hb⟩
  have HB := Lib.hid hb
  clear hb
  go_wp2
  go_ret
  exact ⟨rfl, HB.out⟩

/-- The cells that Same loads. -/
def SameC (p q m k : Nat) (ra : Option Addr) (rn rc : Nat) (va : Option Addr) (vn vc : Nat) (a : EnvA) (L : Nat) (s : St) (now : Int) (ra2 : Option Addr) (rc2 : Nat) (va2 : Option Addr) (vc2 : Nat) (w' : World) : Prop :=
  w'.cell? ⟨p, 20, none⟩ = some (.pointer (some ⟨m, 0, none⟩)) ∧ w'.cell? ⟨p, 21, none⟩ = some (.pointer (some ⟨k, 0, none⟩)) ∧ w'.cell? ⟨p, 22, none⟩ = some (.slice ra rn rc) ∧ w'.cell? ⟨p, 23, none⟩ = some (.slice va vn vc) ∧ w'.cell? ⟨q, 11, none⟩ = some (.slice (some ⟨a.g, 0, none⟩) L a.cap) ∧ w'.cell? ⟨q, 12, none⟩ = some (.int .i64 s.k) ∧ w'.cell? ⟨q, 13, none⟩ = some (.int .i64 s.i) ∧ w'.cell? ⟨q, 14, none⟩ = some (.int .u64 s.o) ∧ w'.cell? ⟨q, 15, none⟩ = some (.int .u64 s.v) ∧ w'.cell? ⟨q, 16, none⟩ = some (.int .i64 s.c) ∧ w'.cell? ⟨q, 17, none⟩ = some (.int .i64 now) ∧ w'.cell? ⟨q, 19, none⟩ = some (.slice ra2 rn rc2) ∧ w'.cell? ⟨q, 20, none⟩ = some (.slice va2 vn vc2)

set_option maxRecDepth 100000 in
set_option maxHeartbeats 8000000 in
theorem msame_any {w : World} {B p m k g cap : Nat} {hd : List Value} {rv ev : Value} {q : Nat} {a : EnvA} {s : St} {d : Int} {es : List Ev} {rs : List Rec} (h : Twin w B p m k g cap hd rv ev q a s d es rs) (hm : rs.length ≤ 1000000) :
    Calls Tryz.prog 27 #[.pointer (some ⟨p, 0, none⟩), .pointer (some ⟨q, 0, none⟩)] w fun e w' => e = .returned (.bool true) ∧ Below w.heap.size w w' := by
  obtain ⟨ra, rc, hr⟩ := h.r.form
  obtain ⟨va, vc, hv⟩ := h.v.form
  obtain ⟨ra2, rc2, hr2⟩ := h.f.rc.form
  obtain ⟨va2, vc2, hv2⟩ := h.f.ev.form
  obtain ⟨rn, hrn⟩ : ∃ rn, rs.length = rn := ⟨_, rfl⟩
  obtain ⟨vn, hvn⟩ : ∃ vn, es.length = vn := ⟨_, rfl⟩
  obtain ⟨L, hL⟩ : ∃ L, s.X.length = L := ⟨_, rfl⟩
  obtain ⟨now, hnow⟩ : ∃ now, a.now = now := ⟨_, rfl⟩
  rw [hrn] at hr hr2
  rw [hvn] at hv hv2
  have HT := Lib.hid (fun (W : World) (hW : Below w.heap.size w W) => h.below hW)
  have HC := Lib.hid (show ∀ W : World, Below w.heap.size w W → SameC p q m k ra rn rc va vn vc a L s now ra2 rc2 va2 vc2 W by
    intro W hW
    have h' := h.below hW
    unfold SameC
    rw [← hr, ← hv, ← hr2, ← hv2, ← hL, ← hnow]
    exact ⟨h'.e.at20, h'.e.at21, h'.e.at22, h'.e.at23, h'.f.m.blk.at_ 11, h'.f.m.blk.at_ 12, h'.f.m.blk.at_ 13, h'.f.m.blk.at_ 14, h'.f.m.blk.at_ 15, h'.f.m.blk.at_ 16, h'.f.m.blk.at_ 17, h'.f.m.blk.at_ 19, h'.f.m.blk.at_ 20⟩)
  have K1 := Lib.hid (show ∀ W : World, Below w.heap.size w W → Calls Tryz.prog 49 #[.pointer (some ⟨m, 0, none⟩)] W (fun e W' => ∃ g2 c2, e = .returned (.slice (some ⟨g2, 0, none⟩) L c2) ∧ Row W' g2 L c2 s.X ∧ Below w.heap.size w W') by
    intro W hW
    refine (cells_any (h.below hW).e.mem).mono ?_
    rintro e W' ⟨g2, c2, rfl, _, hrow, hb⟩
    rw [hL] at hrow ⊢
    exact ⟨g2, c2, rfl, hrow, hW.trans (hb.mono hW.size)⟩)
  have K2 := Lib.hid (show ∀ (W : World) (g2 c2 : Nat), Below w.heap.size w W → Row W g2 L c2 s.X → Calls Tryz.prog 48 #[.slice (some ⟨g2, 0, none⟩) L c2, .slice (some ⟨a.g, 0, none⟩) L a.cap] W (fun e W' => e = .returned (.bool true) ∧ Below w.heap.size w W') by
    intro W g2 c2 hW hrow
    have hr9 := (h.below hW).f.m.row
    rw [hL] at hr9
    refine (wsame_any hrow hr9).mono ?_
    rintro e W' ⟨rfl, d9, rfl⟩
    exact ⟨rfl, hW.trans ((below_drewN _ _).mono hW.size)⟩)
  have K3 := Lib.hid (show ∀ W : World, Below w.heap.size w W → Calls Tryz.prog 33 #[.pointer (some ⟨m, 0, none⟩)] W (fun e W' => e = .returned (.int .i64 s.c) ∧ Below w.heap.size w W') by
    intro W hW
    refine (count_any (h.below hW).e.mem).mono ?_
    rintro e W' ⟨rfl, rfl⟩
    exact ⟨rfl, hW⟩)
  have K4 := Lib.hid (show ∀ W : World, Below w.heap.size w W → Calls Tryz.prog 50 #[.pointer (some ⟨m, 0, none⟩)] W (fun e W' => e = .returned (.agg #[.int .i64 s.k, .int .i64 s.i, .int .u64 s.o, .int .u64 s.v]) ∧ Below w.heap.size w W') by
    intro W hW
    refine (last_any (h.below hW).e.mem).mono ?_
    rintro e W' ⟨rfl, hb⟩
    exact ⟨rfl, hW.trans (hb.mono hW.size)⟩)
  have K5 := Lib.hid (show ∀ W : World, Below w.heap.size w W → Calls Tryz.prog 51 #[.slice va vn vc, .slice va2 vn vc2] W (fun e W' => e = .returned (.bool true) ∧ Below w.heap.size w W') by
    intro W hW
    have h' := h.below hW
    obtain ⟨a1, c1, e1, i1⟩ := h'.v.inE
    obtain ⟨a2, c2, e2, i2⟩ := h'.f.ev.inE
    rw [hv] at e1
    rw [hv2] at e2
    rw [hvn] at e1 e2
    cases e1
    cases e2
    have hs := evsame_any i1 i2 vc vc2
    rw [hvn] at hs
    refine hs.mono ?_
    rintro e W' ⟨rfl, d9, rfl⟩
    rw [decide_eq_true rfl]
    exact ⟨rfl, hW.trans ((below_drewN _ _).mono hW.size)⟩)
  have K6 := Lib.hid (show ∀ W : World, Below w.heap.size w W → Calls Tryz.prog 52 #[.slice ra rn rc, .slice ra2 rn rc2] W (fun e W' => e = .returned (.bool true) ∧ Below w.heap.size w W') by
    intro W hW
    have h' := h.below hW
    have hs := recsame_any h'.r h'.f.rc hm
    rw [hr, hr2] at hs
    refine (keeprec_any hs).mono ?_
    rintro e W' ⟨rfl, hb⟩
    exact ⟨rfl, hW.trans (hb.mono hW.size)⟩)
  have K7 := Lib.hid (show ∀ W : World, Below w.heap.size w W → Calls Tryz.prog 53 #[.pointer (some ⟨k, 0, none⟩)] W (fun e W' => e = .returned (.int .i64 now) ∧ Below w.heap.size w W') by
    intro W hW
    have h' := h.below hW
    refine (now_any h'.e.clk).mono ?_
    rintro e W' ⟨rfl, rfl⟩
    rw [hnow]
    exact ⟨rfl, hW⟩)
  have hae := fun (W : World) => acc_eq s.k s.i s.o s.v W
  clear h hr hv hr2 hv2 hrn hvn hL hnow hm
  have hd0 : Below w.heap.size w w.drew := below_drew (Below.refl _ _)
  have c0 := HC.out w.drew hd0
  unfold SameC at c0
  go_enter Tryz.func27, Tryz.ntmps27
  go_wp2_with fail
  simp only [List.append]
  go_region_held3 (fun w' => w'.cell? ⟨p, 20, none⟩ = some (.pointer (some ⟨m, 0, none⟩)) ∧ w'.cell? ⟨p, 21, none⟩ = some (.pointer (some ⟨k, 0, none⟩)) ∧ w'.cell? ⟨p, 22, none⟩ = some (.slice ra rn rc) ∧ w'.cell? ⟨p, 23, none⟩ = some (.slice va vn vc) ∧ w'.cell? ⟨q, 11, none⟩ = some (.slice (some ⟨a.g, 0, none⟩) L a.cap) ∧ w'.cell? ⟨q, 12, none⟩ = some (.int .i64 s.k) ∧ w'.cell? ⟨q, 13, none⟩ = some (.int .i64 s.i) ∧ w'.cell? ⟨q, 14, none⟩ = some (.int .u64 s.o) ∧ w'.cell? ⟨q, 15, none⟩ = some (.int .u64 s.v) ∧ w'.cell? ⟨q, 16, none⟩ = some (.int .i64 s.c) ∧ w'.cell? ⟨q, 17, none⟩ = some (.int .i64 now) ∧ w'.cell? ⟨q, 19, none⟩ = some (.slice ra2 rn rc2) ∧ w'.cell? ⟨q, 20, none⟩ = some (.slice va2 vn vc2)) ((first | exact c7 | exact c6 | exact c5 | exact c4 | exact c3 | exact c2 | exact c1 | exact c0 | go_keep))
    (first
     | (go_at_call 49
        refine (K1.out _ hd0).mono ?_
        rintro e W1 ⟨g2, cg2, rfl, hrow, hd1⟩
        have c1 := HC.out W1 hd1
        unfold SameC at c1)
     | (go_at_call 48
        refine (K2.out _ _ _ hd1 hrow).mono ?_
        rintro e W2 ⟨rfl, hd2⟩
        have c2 := HC.out W2 hd2
        unfold SameC at c2)
     | (go_at_call 33
        refine (K3.out _ hd2).mono ?_
        rintro e W3 ⟨rfl, hd3⟩
        have c3 := HC.out W3 hd3
        unfold SameC at c3)
     | (go_at_call 50
        refine (K4.out _ hd3).mono ?_
        rintro e W4 ⟨rfl, hd4⟩
        have c4 := HC.out W4 hd4
        unfold SameC at c4)
     | (go_at_call 51
        refine (K5.out _ hd4).mono ?_
        rintro e W5 ⟨rfl, hd5⟩
        have c5 := HC.out W5 hd5
        unfold SameC at c5)
     | (go_at_call 52
        refine (K6.out _ hd5).mono ?_
        rintro e W6 ⟨rfl, hd6⟩
        have c6 := HC.out W6 hd6
        unfold SameC at c6)
     | (go_at_call 53
        refine (K7.out _ hd6).mono ?_
        rintro e W7 ⟨rfl, hd7⟩
        have c7 := HC.out W7 hd7
        unfold SameC at c7))
  go_wp2_with fail
  go_ret
  exact ⟨rfl, hd7⟩
end Go.Proofs.YtanbjdlaolgepaaGreat
