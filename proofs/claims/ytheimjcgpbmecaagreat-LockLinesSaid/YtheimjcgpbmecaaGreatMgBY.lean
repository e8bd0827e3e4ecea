/-
  A step of the reference's machine beside the program's environment. (Rests on Step8 alone.)
  Package lock: Copy of its machines. (Written by wip/gen_lk.py.)
  Package lock, plain mathematics: what its lines keep. No function and no type is named.
-/
import Derived.Test.YtheimjcgpbmecaaGreatMgAU
import Derived.Test.YtheimjcgpbmecaaGreatMgAO
import Derived.Test.YtheimjcgpbmecaaGreatMgAI
import Derived.Test.YtheimjcgpbmecaaGreatMgBH
namespace Go.Proofs.YtheimjcgpbmecaaGreat
open Go Go.RowKit Go.Shelf
set_option linter.unusedSimpArgs false

theorem row_blk {w : World} {base : Nat} {t : TypeId} {s : Nat} {v : Value} {n : Nat} {vs : List Value} (h : w.ownsRow base t s v n vs) {j : Nat} (hj : v.ownBlock = some j) : ∃ cur, Blk w j t cur := by
  rcases h.2 with ⟨rfl, _⟩ | ⟨g, cap, cur, rfl, _, hg, _⟩
  · simp [Value.ownBlock] at hj
  · simp only [Value.ownBlock, Option.some.injEq] at hj
    subst hj
    exact ⟨cur, hg⟩
theorem Mach1.frm {B : Nat} {w w' : World} {m g cap : Nat} {post : List Value} {f : Fra} {S : List Nat} (h : Mach1 B w m g cap post f) (hf : Fr S w w') (h1 : m ∉ S) (h2 : g ∉ S) : Mach1 B w' m g cap post f :=
  ⟨h.blk.of_same (hf.block m h.blk.lt h1), h.fr.fr hf h2, h.bm, h.bg, h.hc⟩

section
variable {w w' : World} {B p m k g cap : Nat} {hd : List Value} {rv ev : Value} {q : Nat} {a : EnvA} {s s' s2 : St} {t t' d : Int} {es es2 : List Ev} {rs rs2 : List Rec}
/-- A block that a step of the reference's machine leaves alone. -/
theorem nin_gen {y gy : Nat} {cy cg : Array Value} (hy : Blk w y 133 cy) (hgy : Blk w gy 79 cg) (he : EnvF B w q a s es rs) {j : Nat} {tj : TypeId} {cj : Array Value} (hj : Blk w j tj cj) (h1 : tj ≠ 133) (h2 : tj ≠ 79) (h3 : tj ≠ 56)
    (h4 : tj = 50 → j ≠ a.g) (h5 : tj = 24 → a.ev.ownBlock ≠ some j) (h6 : tj = 62 → a.rv.ownBlock ≠ some j) : j ∉ y :: gy :: a.S q := by
  intro hm
  obtain ⟨ks, _, hrow, _⟩ := he.rc
  obtain ⟨cur, hb, _⟩ := he.m.row.blk
  simp only [EnvA.S, List.mem_cons, List.mem_append, Option.mem_toList] at hm
  rcases hm with rfl | rfl | rfl | rfl | hm | hm
  · exact h1 (ty_at hj hy)
  · exact h2 (ty_at hj hgy)
  · exact h3 (ty_at hj he.m.blk)
  · exact h4 (ty_at hj hb) rfl
  · obtain ⟨c5, hc5⟩ := row_blk he.ev hm
    exact h5 (ty_at hj hc5) hm
  · obtain ⟨c6, hc6⟩ := row_blk hrow hm
    exact h6 (ty_at hj hc6) hm
theorem Duo.ref (h : Duo w B p m k g cap hd rv ev q a s s2 t d es es2 rs rs2) {y gy : Nat} {cy cg : Array Value} (hy : Blk w y 133 cy) (hgy : Blk w gy 79 cg) {v : Value} {s2' : St} {es2' : List Ev} {rs2' : List Rec}
    (he : EnvF B w' q { a with ev := v } s2' es2' rs2') (hf : Fr (y :: gy :: a.S q) w w') (hv : ∀ x, v.ownBlock = some x → a.ev.ownBlock = some x ∨ w.heap.size ≤ x) : Duo w' B p m k g cap hd rv ev q { a with ev := v } s s2' t d es es2' rs rs2' := by
  obtain ⟨cur, hg, _⟩ := h.e.mem.row.blk
  have n1 := nin_gen hy hgy h.f h.e.blk (by decide) (by decide) (by decide) (fun e => absurd e (by decide)) (fun e => absurd e (by decide)) (fun e => absurd e (by decide))
  have n2 := nin_gen hy hgy h.f h.e.mem.blk (by decide) (by decide) (by decide) (fun e => absurd e (by decide)) (fun e => absurd e (by decide)) (fun e => absurd e (by decide))
  have n3 := nin_gen hy hgy h.f h.e.clk (by decide) (by decide) (by decide) (fun e => absurd e (by decide)) (fun e => absurd e (by decide)) (fun e => absurd e (by decide))
  have n4 := nin_gen hy hgy h.f hg (by decide) (by decide) (by decide) (fun _ => h.gg) (fun e => absurd e (by decide)) (fun e => absurd e (by decide))
  refine ⟨h.e.fr hf n1 n2 n3 n4, row_frS h.v hf (fun j hj => ?_), h.r.frS hf (fun j hj => ?_) (fun j cs hm hk => ?_), he, h.gg, fun x hx hx2 => ?_, h.rr, h.bp, h.bm, h.bk, h.bg⟩
  · obtain ⟨c5, hc5⟩ := row_blk h.v hj
    exact nin_gen hy hgy h.f hc5 (by decide) (by decide) (by decide) (fun e => absurd e (by decide)) (fun _ => h.vv j hj) (fun e => absurd e (by decide))
  · obtain ⟨ks, _, hrow, _⟩ := h.r
    obtain ⟨c5, hc5⟩ := row_blk hrow hj
    exact nin_gen hy hgy h.f hc5 (by decide) (by decide) (by decide) (fun e => absurd e (by decide)) (fun e => absurd e (by decide)) (fun _ => h.rr j hj)
  · exact nin_gen hy hgy h.f (show Blk w j 3 cs from hk) (by decide) (by decide) (by decide) (fun e => absurd e (by decide)) (fun e => absurd e (by decide)) (fun e => absurd e (by decide)) hm
  · rcases hv x hx2 with e | e
    · exact h.vv x hx e
    · have := (World.ownsRow.lt h.v x hx).2
      omega
end

/-- What the comparison of two machines carries along: two equal environments, the program's machine (block x) and the reference's (block y) at the same line. -/
structure MS (W0 : World) (ok : Fra → Prop) (kd : Int) (ty : TypeId) (B p m k g cap : Nat) (hd : List Value) (rv ev : Value) (q y gy cy : Nat) (pst : List Value) (d : Int) (es : List Ev) (rs : List Rec) (s : St) (f : Fra) (a : EnvA) (C T : Int) (x : Nat) (cx : Array Value) (w : World) : Prop where
  u : Duo w B p m k g cap hd rv ev q a s s a.now d es es rs rs
  bx : Blk w x ty cx
  my : Mach1 B w y gy cy pst f
  sn : s.N
  fo : ok f
  fk : f.kd = kd
  sc : 0 ≤ s.c ∧ s.c ≤ C
  tn : 0 ≤ a.now ∧ a.now ≤ T
  bb : Below W0.heap.size W0 w
  hx : B ≤ x
  hz : W0.heap.size = B
section
variable {W0 : World} {ok : Fra → Prop} {kd : Int} {ty : TypeId} {w w' : World} {B p m k g cap : Nat} {hd : List Value} {rv ev : Value} {q y gy cy : Nat} {pst : List Value} {d : Int} {es : List Ev} {rs : List Rec} {s s' : St} {f : Fra} {a : EnvA} {C T : Int} {x : Nat} {cx : Array Value}
theorem MS.below (h : MS W0 ok kd ty B p m k g cap hd rv ev q y gy cy pst d es rs s f a C T x cx w) (hb : Below w.heap.size w w') : MS W0 ok kd ty B p m k g cap hd rv ev q y gy cy pst d es rs s f a C T x cx w' :=
  ⟨h.u.below hb, h.bx.below hb, h.my.frm (Fr.old (S := []) hb) (by simp) (by simp), h.sn, h.fo, h.fk, h.sc, h.tn, h.bb.trans (hb.mono h.bb.size), h.hx, h.hz⟩
theorem MS.up (h : MS W0 ok kd ty B p m k g cap hd rv ev q y gy cy pst d es rs s f a C T x cx w) {C' T' : Int} (hc : C ≤ C') (ht : T ≤ T') : MS W0 ok kd ty B p m k g cap hd rv ev q y gy cy pst d es rs s f a C' T' x cx w :=
  ⟨h.u, h.bx, h.my, h.sn, h.fo, h.fk, ⟨h.sc.1, Int.le_trans h.sc.2 hc⟩, ⟨h.tn.1, Int.le_trans h.tn.2 ht⟩, h.bb, h.hx, h.hz⟩
/-- A cell has been changed in both. -/
theorem MS.dist (h : MS W0 ok kd ty B p m k g cap hd rv ev q y gy cy pst d es rs s f a C T x cx w) (ht : Odd ty) (hu : Duo w' B p m k g cap hd rv ev q a s' s' a.now d es es rs rs) (hn : s'.N) (h1 : s.c ≤ s'.c) (h2 : s'.c ≤ s.c + 1) (hf : Fr [m, g, q, a.g] w w') :
    MS W0 ok kd ty B p m k g cap hd rv ev q y gy cy pst d es rs s' f a (C + 1) T x cx w' := by
  obtain ⟨cur, hg, _⟩ := h.u.e.mem.row.blk
  obtain ⟨cur2, hg2, _⟩ := h.u.f.m.row.blk
  have nin : ∀ {j : Nat} {tj : TypeId} {cj : Array Value}, Blk w j tj cj → tj ≠ 121 → tj ≠ 50 → tj ≠ 56 → j ∉ [m, g, q, a.g] := by
    intro j tj cj hj e1 e2 e3 hm
    simp only [List.mem_cons, List.not_mem_nil, or_false] at hm
    rcases hm with rfl | rfl | rfl | rfl
    · exact e1 (ty_at hj h.u.e.mem.blk)
    · exact e2 (ty_at hj hg)
    · exact e3 (ty_at hj h.u.f.m.blk)
    · exact e2 (ty_at hj hg2)
  refine ⟨hu, h.bx.of_same (hf.block x h.bx.lt (nin h.bx ht.t2 ht.t4 ht.t5)), h.my.frm hf (nin h.my.blk (by decide) (by decide) (by decide)) (nin h.my.fr.blk (by decide) (by decide) (by decide)), hn, h.fo, h.fk, ?_, h.tn, ?_, h.hx, h.hz⟩
  · have := h.sc
    omega
  · have hz := h.hz
    have hsz := h.bb.size
    refine h.bb.trans (hf.below hsz (fun j hj => ?_))
    rw [hz]
    simp only [List.mem_cons, List.not_mem_nil, or_false] at hj
    rcases hj with rfl | rfl | rfl | rfl
    · exact h.u.bm
    · exact h.u.bg
    · exact h.u.f.hp
    · exact h.u.f.hg
/-- Both clocks tick. -/
theorem MS.tick (h : MS W0 ok kd ty B p m k g cap hd rv ev q y gy cy pst d es rs s f a C T x cx w) (ht : Odd ty) (hT : T ≤ 1000000) (hc : Clk w' k (wrap64 (a.now + 1)) d) (hf : Fr [k] w w') :
    MS W0 ok kd ty B p m k g cap hd rv ev q y gy cy pst d es rs s f { a with now := wrap64 (a.now + 1) } C (T + 1) x cx (w'.setCell ⟨q, 17, none⟩ (.int .i64 (wrap64 (a.now + 1)))) := by
  have hu := (h.u.tick hc hf).rnow (wrap64 (a.now + 1))
  have hs : Fr [q] w' (w'.setCell ⟨q, 17, none⟩ (.int .i64 (wrap64 (a.now + 1)))) := (Fr.refl _ _).setCell (by simp) _
  have hfr : Fr [k, q] w (w'.setCell ⟨q, 17, none⟩ (.int .i64 (wrap64 (a.now + 1)))) := (hf.mono (by simp)).trans (hs.mono (by simp))
  have nin : ∀ {j : Nat} {tj : TypeId} {cj : Array Value}, Blk w j tj cj → tj ≠ 119 → tj ≠ 56 → j ∉ [k, q] := by
    intro j tj cj hj e1 e2 hm
    simp only [List.mem_cons, List.not_mem_nil, or_false] at hm
    rcases hm with rfl | rfl
    · exact e1 (ty_at hj h.u.e.clk)
    · exact e2 (ty_at hj h.u.f.m.blk)
  refine ⟨hu, h.bx.of_same (hfr.block x h.bx.lt (nin h.bx ht.t3 ht.t5)), h.my.frm hfr (nin h.my.blk (by decide) (by decide)) (nin h.my.fr.blk (by decide) (by decide)), h.sn, h.fo, h.fk, h.sc, ?_, ?_, h.hx, h.hz⟩
  · show 0 ≤ wrap64 (a.now + 1) ∧ wrap64 (a.now + 1) ≤ T + 1
    have := h.tn
    unfold wrap64
    omega
  · have hz := h.hz
    refine h.bb.trans (hfr.below h.bb.size (fun j hj => ?_))
    rw [hz]
    simp only [List.mem_cons, List.not_mem_nil, or_false] at hj
    rcases hj with rfl | rfl
    · exact h.u.bk
    · exact h.u.f.hp
/-- Both machines have made a step, and are not done. -/
theorem MS.stepped {stp : St → Fra → St × Fra × Res} (hk : Keeps stp ok) (h : MS W0 ok kd ty B p m k g cap hd rv ev q y gy cy pst d es rs s f a C T x cx w) (ht : Odd ty) (ht2 : ty ≠ 133 ∧ ty ≠ 79) (hC : C < 1000000) {w1 : World} {cx' : Array Value} {v : Value}
    (hp : PE w1 p m k g cap (stp s f).1 a.now d hd rv ev) (hx : Blk w1 x ty cx') (hf1 : Fr [m, g, x] w w1) (he : EnvF B w' q { a with ev := v } (stp s f).1 es rs) (hfr : FrameP w' gy 0 [] pst (stp s f).2.1) (hb : Blk w' y 133 (if (stp s f).2.2.dn = true then mcells gy 0 cy true (stp s f).2.2.cd (stp s f).2.2.vl else mcells gy 1 cy false 0 0))
    (hf2 : Fr (y :: gy :: a.S q) w1 w') (hv : ∀ j, v.ownBlock = some j → a.ev.ownBlock = some j ∨ w1.heap.size ≤ j) (hy1 : Mach1 B w1 y gy cy pst f) :
    Duo w' B p m k g cap hd rv ev q { a with ev := v } (stp s f).1 (stp s f).1 a.now d es es rs rs ∧ Blk w' x ty cx' ∧ Below W0.heap.size W0 w' ∧ ((stp s f).2.2.dn = false → MS W0 ok kd ty B p m k g cap hd rv ev q y gy cy pst d es rs (stp s f).1 (stp s f).2.1 { a with ev := v } (C + 1) T x cx' w') := by
  have hu1 := h.u.prog h.bx ht h.hx hp hf1
  have hu2 := hu1.ref hy1.blk hy1.fr.blk he hf2 hv
  have hx2 : Blk w' x ty cx' := hx.of_same (hf2.block x hx.lt (nin_gen hy1.blk hy1.fr.blk hu1.f hx ht2.1 ht2.2 ht.t5 (fun e => absurd e ht.t4) (fun e => absurd e ht.t6) (fun e => absurd e ht.t7)))
  have hz := h.hz
  have hb1 : Below W0.heap.size W0 w1 := h.bb.trans (hf1.below h.bb.size (by rw [hz]; exact h.u.lowX h.hx))
  have hbw : Below W0.heap.size W0 w' := by
    refine hb1.trans (hf2.below hb1.size (fun j hj => ?_))
    rw [hz]
    obtain ⟨ks, _, hrow, _⟩ := hu1.f.rc
    simp only [EnvA.S, List.mem_cons, List.mem_append, Option.mem_toList] at hj
    rcases hj with rfl | rfl | rfl | rfl | hj | hj
    · exact h.my.bm
    · exact h.my.bg
    · exact h.u.f.hp
    · exact h.u.f.hg
    · exact (World.ownsRow.lt hu1.f.ev j hj).1
    · exact (World.ownsRow.lt hrow j hj).1
  refine ⟨hu2, hx2, hbw, fun hdn => ?_⟩
  rw [if_neg (by rw [hdn]; decide)] at hb
  have hc := hk.c s f ⟨h.sc.1, by have := h.sc.2; omega⟩
  refine ⟨hu2, hx2, ⟨hb, hfr, h.my.bm, h.my.bg, h.my.hc⟩, hk.n _ _ h.sn h.fo, hk.o _ _ h.sn h.fo hdn, (hk.q s f).2.2.trans h.fk, ?_, h.tn, hbw, h.hx, h.hz⟩
  have := h.sc
  omega
end
end Go.Proofs.YtheimjcgpbmecaaGreat

namespace Go.Proofs.YtheimjcgpbmecaaGreat
open Go Go.RowKit Go.Shelf
set_option linter.unusedSimpArgs false

theorem copy_acquirer {w : World} {q : Nat} {f : Fra} {cd vl : Int} (h : LB w q 155 [.int .i64 f.fa] f cd vl) :
    Calls Tryz.prog 223 #[.pointer (some ⟨q, 0, none⟩)] w fun e w' => e = .returned (.iface 151 (.pointer (some ⟨w.heap.size, 0, none⟩))) ∧ LB w' w.heap.size 155 [.int .i64 f.fa] f cd vl ∧ Below w.heap.size w w' := by
  have c0 : w.cell? ⟨q, 0, none⟩ = some (.int .i64 f.ln) := h.blk.at_ 0
  have c1 : w.cell? ⟨q, 1, none⟩ = some (.int .i64 cd) := h.blk.at_ 1
  have c2 : w.cell? ⟨q, 2, none⟩ = some (.int .i64 vl) := h.blk.at_ 2
  have c3 : w.cell? ⟨q, 3, none⟩ = some (.int .i64 f.fa) := h.blk.at_ 3
  clear h
  go_enter Tryz.func223, Tryz.ntmps223
  go_wp2
  go_ret
  exact ⟨rfl, ⟨Blk.made w _ _, by decide, by decide, by decide, by decide⟩, below_one w _⟩
theorem meth_copy_acquirer (q : Nat) (w : World) : (method 379 151 (.pointer (some ⟨q, 0, none⟩)) "Copy").run Tryz.prog w = .ok (223, .pointer (some ⟨q, 0, none⟩)) w := by kernel_rfl
theorem ahead_copy_acquirer (q : Nat) (w : World) : (nilAhead 379 151 (.pointer (some ⟨q, 0, none⟩)) "Copy").run Tryz.prog w = .ok (some false) w := by kernel_rfl
theorem odd_acquirer : Odd 155 := ⟨by decide, by decide, by decide, by decide, by decide, by decide, by decide, by decide⟩

theorem copy_trier {w : World} {q : Nat} {f : Fra} {cd vl : Int} (h : LB w q 157 [.int .i64 f.fa] f cd vl) :
    Calls Tryz.prog 228 #[.pointer (some ⟨q, 0, none⟩)] w fun e w' => e = .returned (.iface 156 (.pointer (some ⟨w.heap.size, 0, none⟩))) ∧ LB w' w.heap.size 157 [.int .i64 f.fa] f cd vl ∧ Below w.heap.size w w' := by
  have c0 : w.cell? ⟨q, 0, none⟩ = some (.int .i64 f.ln) := h.blk.at_ 0
  have c1 : w.cell? ⟨q, 1, none⟩ = some (.int .i64 cd) := h.blk.at_ 1
  have c2 : w.cell? ⟨q, 2, none⟩ = some (.int .i64 vl) := h.blk.at_ 2
  have c3 : w.cell? ⟨q, 3, none⟩ = some (.int .i64 f.fa) := h.blk.at_ 3
  clear h
  go_enter Tryz.func228, Tryz.ntmps228
  go_wp2
  go_ret
  exact ⟨rfl, ⟨Blk.made w _ _, by decide, by decide, by decide, by decide⟩, below_one w _⟩
theorem meth_copy_trier (q : Nat) (w : World) : (method 379 156 (.pointer (some ⟨q, 0, none⟩)) "Copy").run Tryz.prog w = .ok (228, .pointer (some ⟨q, 0, none⟩)) w := by kernel_rfl
theorem ahead_copy_trier (q : Nat) (w : World) : (nilAhead 379 156 (.pointer (some ⟨q, 0, none⟩)) "Copy").run Tryz.prog w = .ok (some false) w := by kernel_rfl
theorem odd_trier : Odd 157 := ⟨by decide, by decide, by decide, by decide, by decide, by decide, by decide, by decide⟩

theorem copy_releaser {w : World} {q : Nat} {f : Fra} {cd vl : Int} (h : LB w q 150 [] f cd vl) :
    Calls Tryz.prog 220 #[.pointer (some ⟨q, 0, none⟩)] w fun e w' => e = .returned (.iface 147 (.pointer (some ⟨w.heap.size, 0, none⟩))) ∧ LB w' w.heap.size 150 [] f cd vl ∧ Below w.heap.size w w' := by
  have c0 : w.cell? ⟨q, 0, none⟩ = some (.int .i64 f.ln) := h.blk.at_ 0
  have c1 : w.cell? ⟨q, 1, none⟩ = some (.int .i64 cd) := h.blk.at_ 1
  have c2 : w.cell? ⟨q, 2, none⟩ = some (.int .i64 vl) := h.blk.at_ 2
  clear h
  go_enter Tryz.func220, Tryz.ntmps220
  go_wp2
  go_ret
  exact ⟨rfl, ⟨Blk.made w _ _, by decide, by decide, by decide, by decide⟩, below_one w _⟩
theorem meth_copy_releaser (q : Nat) (w : World) : (method 379 147 (.pointer (some ⟨q, 0, none⟩)) "Copy").run Tryz.prog w = .ok (220, .pointer (some ⟨q, 0, none⟩)) w := by kernel_rfl
theorem ahead_copy_releaser (q : Nat) (w : World) : (nilAhead 379 147 (.pointer (some ⟨q, 0, none⟩)) "Copy").run Tryz.prog w = .ok (some false) w := by kernel_rfl
theorem odd_releaser : Odd 150 := ⟨by decide, by decide, by decide, by decide, by decide, by decide, by decide, by decide⟩

theorem acquirer_any2 {w : World} {p m k g cap : Nat} {s : St} {t d : Int} {hd : List Value} {rv ev : Value} {q : Nat} {f : Fra} {c : Cfg} (hp : PE w p m k g cap s t d hd rv ev) (hlay : LayHd hd c) (h : LB w q 155 [.int .i64 f.fa] f 0 0) (hl : f.ln = 1) :
    Calls Tryz.prog 224 #[.pointer (some ⟨q, 0, none⟩), .pointer (some ⟨p, 0, none⟩)] w (LStepped w p m k g cap (acqS s f).1 t d hd rv ev q 155 [.int .i64 (acqS s f).2.1.fa] (acqS s f).2.1 (acqS s f).2.2) := acquirer_any hp hlay h hl

theorem trier_any2 {w : World} {p m k g cap : Nat} {s : St} {t d : Int} {hd : List Value} {rv ev : Value} {q : Nat} {f : Fra} {c : Cfg} (hp : PE w p m k g cap s t d hd rv ev) (hlay : LayHd hd c) (h : LB w q 157 [.int .i64 f.fa] f 0 0) (hl : f.ln = 1) :
    Calls Tryz.prog 229 #[.pointer (some ⟨q, 0, none⟩), .pointer (some ⟨p, 0, none⟩)] w (LStepped w p m k g cap (tryS s f).1 t d hd rv ev q 157 [.int .i64 (tryS s f).2.1.fa] (tryS s f).2.1 (tryS s f).2.2) := trier_any hp hlay h hl

theorem releaser_any2 {w : World} {p m k g cap : Nat} {s : St} {t d : Int} {hd : List Value} {rv ev : Value} {q : Nat} {f : Fra} {c : Cfg} (hp : PE w p m k g cap s t d hd rv ev) (hlay : LayHd hd c) (h : LB w q 150 [] f 0 0) (hl : f.ln = 1) :
    Calls Tryz.prog 221 #[.pointer (some ⟨q, 0, none⟩), .pointer (some ⟨p, 0, none⟩)] w (LStepped w p m k g cap (relS s f).1 t d hd rv ev q 150 [] (relS s f).2.1 (relS s f).2.2) := releaser_any hp hlay h hl

end Go.Proofs.YtheimjcgpbmecaaGreat

namespace Go.Proofs.YtheimjcgpbmecaaGreat
open Go Go.RowKit
set_option linter.unusedSimpArgs false

def LkOk (f : Fra) : Prop := f.ln = 1 ∧ 0 ≤ f.fu ∧ 0 ≤ f.fv ∧ f.qc ≤ 9223372036854775807
theorem lkU_nn (a : Int) : 0 ≤ lkU a := by
  unfold lkU
  rw [IntKind.wrap_u64]
  exact Int.emod_nonneg _ (by decide)
theorem lkTake_N {s : St} (h : s.N) (a : Int) : (lkTake s a).N := go_N h _ _ _ (fun x hx => by
  split
  · exact lkU_nn a
  · exact hx)
theorem acq_keeps : Keeps acqS LkOk := by
  refine ⟨fun s f hs h => lkTake_N hs _, fun s f hs h hd => h, fun s f hs h => ⟨h.2.1, h.2.2.1⟩, fun s f h => go_c _ _ _ h, fun s f hd => ?_, fun s f => ⟨rfl, rfl, rfl⟩, fun s f => go_len _ _ _ _⟩
  revert hd
  show (if s.hit 1 0 then (⟨true, 1, 0⟩ : Res) else .none).dn = false → (if s.hit 1 0 then (⟨true, 1, 0⟩ : Res) else .none).cd = 0 ∧ (if s.hit 1 0 then (⟨true, 1, 0⟩ : Res) else .none).vl = 0
  split
  · intro hd; cases hd
  · intro _; exact ⟨rfl, rfl⟩
theorem try_keeps : Keeps tryS LkOk := by
  have ht : ∀ (s : St) (f : Fra), (tryS s f).2.2.dn = true := fun s f => by
    show (if s.hit 1 0 then (⟨true, 1, 0⟩ : Res) else ⟨true, 5, 0⟩).dn = true
    split <;> rfl
  refine ⟨fun s f hs h => lkTake_N hs _, fun s f hs h hd => h, fun s f hs h => ⟨h.2.1, h.2.2.1⟩, fun s f h => go_c _ _ _ h, fun s f hd => ?_, fun s f => ⟨rfl, rfl, rfl⟩, fun s f => go_len _ _ _ _⟩
  rw [ht] at hd
  cases hd
theorem rel_keeps : Keeps relS LkOk := by
  refine ⟨fun s f hs h => go_N hs _ _ _ (fun x hx => Int.le_refl 0), fun s f hs h hd => absurd hd (by simp [relS]), fun s f hs h => ⟨h.2.1, h.2.2.1⟩, fun s f h => go_c _ _ _ h, fun s f hd => absurd hd (by simp [relS]), fun s f => ⟨rfl, rfl, rfl⟩, fun s f => go_len _ _ _ _⟩
end Go.Proofs.YtheimjcgpbmecaaGreat
