/-
  The reference's Make.
  A step of the reference's machine beside the program's environment. (Rests on Step8 alone.)
-/
import Derived.Test.YtllllbepnnpeeaaGreatMgAM
import Derived.Test.YtllllbepnnpeeaaGreatStep8
import Derived.Test.YtllllbepnnpeeaaGreatDuo
import Derived.Test.YtllllbepnnpeeaaGreatMgAT
namespace Go.Proofs.YtllllbepnnpeeaaGreat
open Go Go.RowKit
set_option linter.unusedSimpArgs false

/-- What Make gives. -/
def Made (f : Fra) (w : World) (e : Ending) (w' : World) : Prop := ∃ m g cap, e = .returned (.pointer (some ⟨m, 0, none⟩)) ∧ Mach1 w.heap.size w' m g cap [] { f with ln := 1 } ∧ Below w.heap.size w w'
set_option maxHeartbeats 2000000 in
theorem make_any (f : Fra) (w : World) (hk : (f.kd == 22) = false) : Calls Tryz.prog 21 #[.agg (fcells f).toArray] w (Made f w) := by
  have hX := Blk.made w 55 (fcells f).toArray
  have HX := Lib.hid hX
  have HB := Lib.hid (below_one w (.cells (fcells f).toArray 55))
  have x0 := hX.at_ 0
  have x1 := hX.at_ 1
  have x2 := hX.at_ 2
  have x3 := hX.at_ 3
  have x4 := hX.at_ 4
  have x5 := hX.at_ 5
  have x6 := hX.at_ 6
  have x7 := hX.at_ 7
  have x8 := hX.at_ 8
  have x9 := hX.at_ 9
  have x10 := hX.at_ 10
  have x11 := hX.at_ 11
  have x12 := hX.at_ 12
  have x13 := hX.at_ 13
  have x14 := hX.at_ 14
  have x15 := hX.at_ 15
  have x16 := hX.at_ 16
  have x17 := hX.at_ 17
  have y1 := hX.free 1
  simp only [List.getElem?_toArray, List.getElem?_cons_zero, List.getElem?_cons_succ] at x0 x1 x2 x3 x4 x5 x6 x7 x8 x9 x10 x11 x12 x13 x14 x15 x16 x17
  clear hX
  go_enter Tryz.func21, Tryz.ntmps21
  go_upto_region 1 with fail
  generalize w.alloc (.cells (fcells f).toArray 55) = W at *
  go_wp2
  go_ret
  have hs1 := HB.out.size
  have hB2 := HB.out.setCell (show w.heap.size ≤ (⟨w.heap.size, 1, none⟩ : Addr).block from Nat.le_refl _) (.int .i64 1)
  have hz : (W.setCell ⟨w.heap.size, 1, none⟩ (.int .i64 1)).heap.size = W.heap.size := by simp [World.setCell]
  have b1 := below_one (W.setCell ⟨w.heap.size, 1, none⟩ (.int .i64 1)) (.cells (fcells { f with ln := 1 }).toArray 55)
  have b2 := below_one ((W.setCell ⟨w.heap.size, 1, none⟩ (.int .i64 1)).alloc (.cells (fcells { f with ln := 1 }).toArray 55)) (.cells (mcells W.heap.size 1 1 false 0 0) 129)
  have hF := Blk.made (W.setCell ⟨w.heap.size, 1, none⟩ (.int .i64 1)) 55 (fcells { f with ln := 1 }).toArray
  have hM := Blk.made ((W.setCell ⟨w.heap.size, 1, none⟩ (.int .i64 1)).alloc (.cells (fcells { f with ln := 1 }).toArray 55)) 129 (mcells W.heap.size 1 1 false 0 0)
  rw [hz] at hF
  have hz2 : ((W.setCell ⟨w.heap.size, 1, none⟩ (.int .i64 1)).alloc (.cells (fcells { f with ln := 1 }).toArray 55)).heap.size = W.heap.size + 1 := by simp [hz]
  have hb3 := b2
  rw [hz2] at hM b2
  have hsz := b1.size
  refine ⟨_, W.heap.size, 1, rfl, ⟨hM, ⟨?_, rfl⟩, ?_, by omega, by omega⟩, (hB2.trans (b1.mono (by omega))).trans (b2.mono (by omega))⟩
  · have := hF.below hb3
    simpa using this
  · omega
end Go.Proofs.YtllllbepnnpeeaaGreat

namespace Go.Proofs.YtllllbepnnpeeaaGreat
open Go Go.RowKit Go.Shelf
set_option linter.unusedSimpArgs false

theorem row_blk {w : World} {base : Nat} {t : TypeId} {s : Nat} {v : Value} {n : Nat} {vs : List Value} (h : w.ownsRow base t s v n vs) {j : Nat} (hj : v.ownBlock = some j) : ∃ cur, Blk w j t cur := by
  rcases h.2 with ⟨rfl, _⟩ | ⟨g, cap, cur, rfl, _, hg, _⟩
  · simp [Value.ownBlock] at hj
  · simp only [Value.ownBlock, Option.some.injEq] at hj
    subst hj
    exact ⟨cur, hg⟩
theorem Mach1.frm {B : Nat} {w w' : World} {m g cap : Nat} {post : List Value} {f : Fra} {S : List Nat} (h : Mach1 B w m g cap post f) (hf : Fr S w w') (h1 : m ∉ S) (h2 : g ∉ S) : Mach1 B w' m g cap post f :=
  ⟨h.blk.of_same (hf.block m h.blk.lt h1), h.fr.fr hf h2, h.bm, h.bg, h.hc⟩

section
variable {w w' : World} {B p m k g cap : Nat} {hd : List Value} {rv ev : Value} {q : Nat} {a : EnvA} {s s' s2 : St} {t t' d : Int} {es es2 : List Ev} {rs rs2 : List Rec}
/-- A block that a step of the reference's machine leaves alone. -/
theorem nin_gen {y gy : Nat} {cy cg : Array Value} (hy : Blk w y 129 cy) (hgy : Blk w gy 55 cg) (he : EnvF B w q a s es rs) {j : Nat} {tj : TypeId} {cj : Array Value} (hj : Blk w j tj cj) (h1 : tj ≠ 129) (h2 : tj ≠ 55) (h3 : tj ≠ 115)
    (h4 : tj = 53 → j ≠ a.g) (h5 : tj = 189 → a.ev.ownBlock ≠ some j) (h6 : tj = 211 → a.rv.ownBlock ≠ some j) : j ∉ y :: gy :: a.S q := by
  intro hm
  obtain ⟨ks, _, hrow, _⟩ := he.rc
  obtain ⟨cur, hb, _⟩ := he.m.row.blk
  simp only [EnvA.S, List.mem_cons, List.mem_append, Option.mem_toList] at hm
  rcases hm with rfl | rfl | rfl | rfl | hm | hm
  · exact h1 (ty_at hj hy)
  · exact h2 (ty_at hj hgy)
  · exact h3 (ty_at hj he.m.blk)
  · exact h4 (ty_at hj hb) rfl
  · obtain ⟨c5, hc5⟩ := row_blk he.ev hm
    exact h5 (ty_at hj hc5) hm
  · obtain ⟨c6, hc6⟩ := row_blk hrow hm
    exact h6 (ty_at hj hc6) hm
theorem Duo.ref (h : Duo w B p m k g cap hd rv ev q a s s2 t d es es2 rs rs2) {y gy : Nat} {cy cg : Array Value} (hy : Blk w y 129 cy) (hgy : Blk w gy 55 cg) {v : Value} {s2' : St} {es2' : List Ev} {rs2' : List Rec}
    (he : EnvF B w' q { a with ev := v } s2' es2' rs2') (hf : Fr (y :: gy :: a.S q) w w') (hv : ∀ x, v.ownBlock = some x → a.ev.ownBlock = some x ∨ w.heap.size ≤ x) : Duo w' B p m k g cap hd rv ev q { a with ev := v } s s2' t d es es2' rs rs2' := by
  obtain ⟨cur, hg, _⟩ := h.e.mem.row.blk
  have n1 := nin_gen hy hgy h.f h.e.blk (by decide) (by decide) (by decide) (fun e => absurd e (by decide)) (fun e => absurd e (by decide)) (fun e => absurd e (by decide))
  have n2 := nin_gen hy hgy h.f h.e.mem.blk (by decide) (by decide) (by decide) (fun e => absurd e (by decide)) (fun e => absurd e (by decide)) (fun e => absurd e (by decide))
  have n3 := nin_gen hy hgy h.f h.e.clk (by decide) (by decide) (by decide) (fun e => absurd e (by decide)) (fun e => absurd e (by decide)) (fun e => absurd e (by decide))
  have n4 := nin_gen hy hgy h.f hg (by decide) (by decide) (by decide) (fun _ => h.gg) (fun e => absurd e (by decide)) (fun e => absurd e (by decide))
  refine ⟨h.e.fr hf n1 n2 n3 n4, row_frS h.v hf (fun j hj => ?_), h.r.frS hf (fun j hj => ?_) (fun j cs hm hk => ?_), he, h.gg, fun x hx hx2 => ?_, h.rr, h.bp, h.bm, h.bk, h.bg⟩
  · obtain ⟨c5, hc5⟩ := row_blk h.v hj
    exact nin_gen hy hgy h.f hc5 (by decide) (by decide) (by decide) (fun e => absurd e (by decide)) (fun _ => h.vv j hj) (fun e => absurd e (by decide))
  · obtain ⟨ks, _, hrow, _⟩ := h.r
    obtain ⟨c5, hc5⟩ := row_blk hrow hj
    exact nin_gen hy hgy h.f hc5 (by decide) (by decide) (by decide) (fun e => absurd e (by decide)) (fun e => absurd e (by decide)) (fun _ => h.rr j hj)
  · exact nin_gen hy hgy h.f (show Blk w j 3 cs from hk) (by decide) (by decide) (by decide) (fun e => absurd e (by decide)) (fun e => absurd e (by decide)) (fun e => absurd e (by decide)) hm
  · rcases hv x hx2 with e | e
    · exact h.vv x hx e
    · have := (World.ownsRow.lt h.v x hx).2
      omega
end

/-- What the comparison of two machines carries along: two equal environments, the program's machine (block x) and the reference's (block y) at the same line. -/
structure MS (W0 : World) (ok : Fra → Prop) (kd : Int) (ty : TypeId) (B p m k g cap : Nat) (hd : List Value) (rv ev : Value) (q y gy cy : Nat) (pst : List Value) (d : Int) (es : List Ev) (rs : List Rec) (s : St) (f : Fra) (a : EnvA) (C T : Int) (x : Nat) (cx : Array Value) (w : World) : Prop where
  u : Duo w B p m k g cap hd rv ev q a s s a.now d es es rs rs
  bx : Blk w x ty cx
  my : Mach1 B w y gy cy pst f
  sn : s.N
  fo : ok f
  fk : f.kd = kd
  sc : 0 ≤ s.c ∧ s.c ≤ C
  tn : 0 ≤ a.now ∧ a.now ≤ T
  bb : Below W0.heap.size W0 w
  hx : B ≤ x
  hz : W0.heap.size = B
section
variable {W0 : World} {ok : Fra → Prop} {kd : Int} {ty : TypeId} {w w' : World} {B p m k g cap : Nat} {hd : List Value} {rv ev : Value} {q y gy cy : Nat} {pst : List Value} {d : Int} {es : List Ev} {rs : List Rec} {s s' : St} {f : Fra} {a : EnvA} {C T : Int} {x : Nat} {cx : Array Value}
theorem MS.below (h : MS W0 ok kd ty B p m k g cap hd rv ev q y gy cy pst d es rs s f a C T x cx w) (hb : Below w.heap.size w w') : MS W0 ok kd ty B p m k g cap hd rv ev q y gy cy pst d es rs s f a C T x cx w' :=
  ⟨h.u.below hb, h.bx.below hb, h.my.frm (Fr.old (S := []) hb) (by simp) (by simp), h.sn, h.fo, h.fk, h.sc, h.tn, h.bb.trans (hb.mono h.bb.size), h.hx, h.hz⟩
theorem MS.up (h : MS W0 ok kd ty B p m k g cap hd rv ev q y gy cy pst d es rs s f a C T x cx w) {C' T' : Int} (hc : C ≤ C') (ht : T ≤ T') : MS W0 ok kd ty B p m k g cap hd rv ev q y gy cy pst d es rs s f a C' T' x cx w :=
  ⟨h.u, h.bx, h.my, h.sn, h.fo, h.fk, ⟨h.sc.1, Int.le_trans h.sc.2 hc⟩, ⟨h.tn.1, Int.le_trans h.tn.2 ht⟩, h.bb, h.hx, h.hz⟩
/-- A cell has been changed in both. -/
theorem MS.dist (h : MS W0 ok kd ty B p m k g cap hd rv ev q y gy cy pst d es rs s f a C T x cx w) (ht : Odd ty) (hu : Duo w' B p m k g cap hd rv ev q a s' s' a.now d es es rs rs) (hn : s'.N) (h1 : s.c ≤ s'.c) (h2 : s'.c ≤ s.c + 1) (hf : Fr [m, g, q, a.g] w w') :
    MS W0 ok kd ty B p m k g cap hd rv ev q y gy cy pst d es rs s' f a (C + 1) T x cx w' := by
  obtain ⟨cur, hg, _⟩ := h.u.e.mem.row.blk
  obtain ⟨cur2, hg2, _⟩ := h.u.f.m.row.blk
  have nin : ∀ {j : Nat} {tj : TypeId} {cj : Array Value}, Blk w j tj cj → tj ≠ 163 → tj ≠ 53 → tj ≠ 115 → j ∉ [m, g, q, a.g] := by
    intro j tj cj hj e1 e2 e3 hm
    simp only [List.mem_cons, List.not_mem_nil, or_false] at hm
    rcases hm with rfl | rfl | rfl | rfl
    · exact e1 (ty_at hj h.u.e.mem.blk)
    · exact e2 (ty_at hj hg)
    · exact e3 (ty_at hj h.u.f.m.blk)
    · exact e2 (ty_at hj hg2)
  refine ⟨hu, h.bx.of_same (hf.block x h.bx.lt (nin h.bx ht.t2 ht.t4 ht.t5)), h.my.frm hf (nin h.my.blk (by decide) (by decide) (by decide)) (nin h.my.fr.blk (by decide) (by decide) (by decide)), hn, h.fo, h.fk, ?_, h.tn, ?_, h.hx, h.hz⟩
  · have := h.sc
    omega
  · have hz := h.hz
    have hsz := h.bb.size
    refine h.bb.trans (hf.below hsz (fun j hj => ?_))
    rw [hz]
    simp only [List.mem_cons, List.not_mem_nil, or_false] at hj
    rcases hj with rfl | rfl | rfl | rfl
    · exact h.u.bm
    · exact h.u.bg
    · exact h.u.f.hp
    · exact h.u.f.hg
/-- Both clocks tick. -/
theorem MS.tick (h : MS W0 ok kd ty B p m k g cap hd rv ev q y gy cy pst d es rs s f a C T x cx w) (ht : Odd ty) (hT : T ≤ 1000000) (hc : Clk w' k (wrap64 (a.now + 1)) d) (hf : Fr [k] w w') :
    MS W0 ok kd ty B p m k g cap hd rv ev q y gy cy pst d es rs s f { a with now := wrap64 (a.now + 1) } C (T + 1) x cx (w'.setCell ⟨q, 17, none⟩ (.int .i64 (wrap64 (a.now + 1)))) := by
  have hu := (h.u.tick hc hf).rnow (wrap64 (a.now + 1))
  have hs : Fr [q] w' (w'.setCell ⟨q, 17, none⟩ (.int .i64 (wrap64 (a.now + 1)))) := (Fr.refl _ _).setCell (by simp) _
  have hfr : Fr [k, q] w (w'.setCell ⟨q, 17, none⟩ (.int .i64 (wrap64 (a.now + 1)))) := (hf.mono (by simp)).trans (hs.mono (by simp))
  have nin : ∀ {j : Nat} {tj : TypeId} {cj : Array Value}, Blk w j tj cj → tj ≠ 181 → tj ≠ 115 → j ∉ [k, q] := by
    intro j tj cj hj e1 e2 hm
    simp only [List.mem_cons, List.not_mem_nil, or_false] at hm
    rcases hm with rfl | rfl
    · exact e1 (ty_at hj h.u.e.clk)
    · exact e2 (ty_at hj h.u.f.m.blk)
  refine ⟨hu, h.bx.of_same (hfr.block x h.bx.lt (nin h.bx ht.t3 ht.t5)), h.my.frm hfr (nin h.my.blk (by decide) (by decide)) (nin h.my.fr.blk (by decide) (by decide)), h.sn, h.fo, h.fk, h.sc, ?_, ?_, h.hx, h.hz⟩
  · show 0 ≤ wrap64 (a.now + 1) ∧ wrap64 (a.now + 1) ≤ T + 1
    have := h.tn
    unfold wrap64
    omega
  · have hz := h.hz
    refine h.bb.trans (hfr.below h.bb.size (fun j hj => ?_))
    rw [hz]
    simp only [List.mem_cons, List.not_mem_nil, or_false] at hj
    rcases hj with rfl | rfl
    · exact h.u.bk
    · exact h.u.f.hp
/-- Both machines have made a step, and are not done. -/
theorem MS.stepped {stp : St → Fra → St × Fra × Res} (hk : Keeps stp ok) (h : MS W0 ok kd ty B p m k g cap hd rv ev q y gy cy pst d es rs s f a C T x cx w) (ht : Odd ty) (ht2 : ty ≠ 129 ∧ ty ≠ 55) (hC : C < 1000000) {w1 : World} {cx' : Array Value} {v : Value}
    (hp : PE w1 p m k g cap (stp s f).1 a.now d hd rv ev) (hx : Blk w1 x ty cx') (hf1 : Fr [m, g, x] w w1) (he : EnvF B w' q { a with ev := v } (stp s f).1 es rs) (hfr : FrameP w' gy 0 [] pst (stp s f).2.1) (hb : Blk w' y 129 (if (stp s f).2.2.dn = true then mcells gy 0 cy true (stp s f).2.2.cd (stp s f).2.2.vl else mcells gy 1 cy false 0 0))
    (hf2 : Fr (y :: gy :: a.S q) w1 w') (hv : ∀ j, v.ownBlock = some j → a.ev.ownBlock = some j ∨ w1.heap.size ≤ j) (hy1 : Mach1 B w1 y gy cy pst f) :
    Duo w' B p m k g cap hd rv ev q { a with ev := v } (stp s f).1 (stp s f).1 a.now d es es rs rs ∧ Blk w' x ty cx' ∧ Below W0.heap.size W0 w' ∧ ((stp s f).2.2.dn = false → MS W0 ok kd ty B p m k g cap hd rv ev q y gy cy pst d es rs (stp s f).1 (stp s f).2.1 { a with ev := v } (C + 1) T x cx' w') := by
  have hu1 := h.u.prog h.bx ht h.hx hp hf1
  have hu2 := hu1.ref hy1.blk hy1.fr.blk he hf2 hv
  have hx2 : Blk w' x ty cx' := hx.of_same (hf2.block x hx.lt (nin_gen hy1.blk hy1.fr.blk hu1.f hx ht2.1 ht2.2 ht.t5 (fun e => absurd e ht.t4) (fun e => absurd e ht.t6) (fun e => absurd e ht.t7)))
  have hz := h.hz
  have hb1 : Below W0.heap.size W0 w1 := h.bb.trans (hf1.below h.bb.size (by rw [hz]; exact h.u.lowX h.hx))
  have hbw : Below W0.heap.size W0 w' := by
    refine hb1.trans (hf2.below hb1.size (fun j hj => ?_))
    rw [hz]
    obtain ⟨ks, _, hrow, _⟩ := hu1.f.rc
    simp only [EnvA.S, List.mem_cons, List.mem_append, Option.mem_toList] at hj
    rcases hj with rfl | rfl | rfl | rfl | hj | hj
    · exact h.my.bm
    · exact h.my.bg
    · exact h.u.f.hp
    · exact h.u.f.hg
    · exact (World.ownsRow.lt hu1.f.ev j hj).1
    · exact (World.ownsRow.lt hrow j hj).1
  refine ⟨hu2, hx2, hbw, fun hdn => ?_⟩
  rw [if_neg (by rw [hdn]; decide)] at hb
  have hc := hk.c s f ⟨h.sc.1, by have := h.sc.2; omega⟩
  refine ⟨hu2, hx2, ⟨hb, hfr, h.my.bm, h.my.bg, h.my.hc⟩, hk.n _ _ h.sn h.fo, hk.o _ _ h.sn h.fo hdn, (hk.q s f).2.2.trans h.fk, ?_, h.tn, hbw, h.hx, h.hz⟩
  have := h.sc
  omega
end
end Go.Proofs.YtllllbepnnpeeaaGreat
