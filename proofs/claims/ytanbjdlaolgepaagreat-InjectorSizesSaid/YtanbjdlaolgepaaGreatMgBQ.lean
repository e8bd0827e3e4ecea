/-
  A step of a machine of the program that emits, beside the reference's: what it leaves of both environments.
  Package injector: the copies of its machines. (Written by wip/gen_inj.py.)
-/
import Derived.Test.YtanbjdlaolgepaaGreatMgBP
import Derived.Test.YtanbjdlaolgepaaGreatMgBJ
import Derived.Test.YtanbjdlaolgepaaGreatMgBF
import Derived.Test.YtanbjdlaolgepaaGreatMgBL
import Derived.Test.YtanbjdlaolgepaaGreatInjC
import Derived.Test.YtanbjdlaolgepaaGreatDuo
namespace Go.Proofs.YtanbjdlaolgepaaGreat
open Go Go.RowKit Go.Shelf
set_option linter.unusedSimpArgs false
set_option linter.unusedVariables false

section
variable {w w' : World} {B p m k g cap : Nat} {hd : List Value} {rv ev ev' : Value} {q : Nat} {a : EnvA} {s s' s2 : St} {t d : Int} {es es' es2 : List Ev} {rs rs2 : List Rec}
/-- A step of a machine of the program (block x), which makes accesses and emits. -/
theorem Duo.progE (h : Duo w B p m k g cap hd rv ev q a s s2 t d es es2 rs rs2) {x : Nat} {tx : TypeId} {cx : Array Value} (hx : Blk w x tx cx) (ht : Odd tx) (hB : B ≤ x) (hp : PE w' p m k g cap s' t d hd rv ev') (hv : OwnE w' B ev' es')
    (hat : ∀ j, ev'.ownBlock = some j → ev.ownBlock = some j ∨ w.heap.size ≤ j) (hf : Fr (p :: m :: g :: x :: ev.ownBlock.toList) w w') : Duo w' B p m k g cap hd rv ev' q a s' s2 t d es' es2 rs rs2 := by
  obtain ⟨cur, hg, _⟩ := h.e.mem.row.blk
  obtain ⟨cur2, hg2, _⟩ := h.f.m.row.blk
  obtain ⟨W0, y0, y1, y2⟩ := h.f.cf
  have hsz := y2.size
  -- a block that no machine of the program changes
  have nin : ∀ {j : Nat} {tj : TypeId} {cj : Array Value}, Blk w j tj cj → tj ≠ 43 → tj ≠ 127 → (tj ≠ 46 ∨ j ≠ g) → tj ≠ tx → (tj ≠ 163 ∨ ev.ownBlock ≠ some j) → j ∉ p :: m :: g :: x :: ev.ownBlock.toList := by
    intro j tj cj hj e1 e2 e3 e4 e5 hm
    simp only [List.mem_cons, Option.mem_toList] at hm
    rcases hm with rfl | rfl | rfl | rfl | hm
    · exact e1 (ty_at hj h.e.blk)
    · exact e2 (ty_at hj h.e.mem.blk)
    · rcases e3 with e3 | e3
      · exact e3 (ty_at hj hg)
      · exact e3 rfl
    · exact e4 (ty_at hj hx)
    · rcases e5 with e5 | e5
      · obtain ⟨c5, hc5⟩ := row_blk h.v hm
        exact e5 (ty_at hj hc5)
      · exact e5 hm
  have hlow : ∀ j, j ∈ p :: m :: g :: x :: ev.ownBlock.toList → B ≤ j := by
    intro j hm
    simp only [List.mem_cons, Option.mem_toList] at hm
    rcases hm with rfl | rfl | rfl | rfl | hm
    · exact h.bp
    · exact h.bm
    · exact h.bg
    · exact hB
    · exact (World.ownsRow.lt h.v j hm).1
  refine ⟨hp, hv, h.r.same (fun j cs tj hk hte => hf.block j (Array.getElem?_eq_some_iff.1 hk).1 ?_), ⟨h.f.m.fr hf (nin h.f.m.blk (by decide) (by decide) (.inl (by decide)) (fun e => ht.t5 e.symm) (.inl (by decide))) (nin hg2 (by decide) (by decide) (.inr (fun e => h.gg e.symm)) (fun e => ht.t4 e.symm) (.inl (by decide))),
    row_frS h.f.ev hf (fun j hj => ?_), h.f.rc.same (fun j cs tj hk hte => hf.block j (Array.getElem?_eq_some_iff.1 hk).1 ?_), ⟨W0, y0, y1, y2.trans (hf.below (by omega) hlow)⟩, h.f.hp, h.f.hg⟩, h.gg, fun j hj hj2 => ?_, h.rr, h.bp, h.bm, h.bk, h.bg⟩
  · rcases hte with rfl | rfl
    · exact nin hk (by decide) (by decide) (.inl (by decide)) (fun e => ht.t7 e.symm) (.inl (by decide))
    · exact nin hk (by decide) (by decide) (.inl (by decide)) (fun e => ht.t8 e.symm) (.inl (by decide))
  · obtain ⟨c5, hc5⟩ := row_blk h.f.ev hj
    exact nin hc5 (by decide) (by decide) (.inl (by decide)) (fun e => ht.t6 e.symm) (.inr (fun e => h.vv j e hj))
  · rcases hte with rfl | rfl
    · exact nin hk (by decide) (by decide) (.inl (by decide)) (fun e => ht.t7 e.symm) (.inl (by decide))
    · exact nin hk (by decide) (by decide) (.inl (by decide)) (fun e => ht.t8 e.symm) (.inl (by decide))
  · rcases hat j hj with e | e
    · exact h.vv j e hj2
    · have := (World.ownsRow.lt h.f.ev j hj2).2
      omega
end
section
variable {W0 : World} {ok : Fra → Prop} {kd : Int} {ty : TypeId} {w w' : World} {B p m k g cap : Nat} {hd : List Value} {rv ev ev' : Value} {q y gy cy : Nat} {pst : List Value} {d : Int} {es es' : List Ev} {rs : List Rec} {s s' : St} {f f' : Fra} {a : EnvA} {C T : Int} {x : Nat} {cx : Array Value} {R : Res}
/-- Both machines have made a step. -/
theorem MS.steppedE (h : MS W0 ok kd ty B p m k g cap hd rv ev q y gy cy pst d es rs s f a C T x cx w) (ht : Odd ty) (ht2 : ty ≠ 100 ∧ ty ≠ 64) (hC : C < 1000000) {w1 : World} {cx' : Array Value} {v : Value}
    (hp : PE w1 p m k g cap s' a.now d hd rv ev') (hov : OwnE w1 B ev' es') (hat : ∀ j, ev'.ownBlock = some j → ev.ownBlock = some j ∨ w.heap.size ≤ j) (hx : Blk w1 x ty cx') (hf1 : Fr (p :: m :: g :: x :: ev.ownBlock.toList) w w1)
    (he : EnvF B w' q { a with ev := v } s' es' rs) (hfr : FrameP w' gy 0 [] pst f') (hb : Blk w' y 100 (if R.dn = true then mcells gy 0 cy true R.cd R.vl else mcells gy 1 cy false 0 0))
    (hf2 : Fr (y :: gy :: a.S q) w1 w') (hv : ∀ j, v.ownBlock = some j → a.ev.ownBlock = some j ∨ w1.heap.size ≤ j) (hy1 : Mach1 B w1 y gy cy pst f)
    (hn : s'.N) (hc : s.c ≤ s'.c ∧ s'.c ≤ s.c + 1) (hok : R.dn = false → ok f') (hkd : f'.kd = f.kd) :
    Duo w' B p m k g cap hd rv ev' q { a with ev := v } s' s' a.now d es' es' rs rs ∧ Blk w' x ty cx' ∧ Below W0.heap.size W0 w' ∧ (R.dn = false → MS W0 ok kd ty B p m k g cap hd rv ev' q y gy cy pst d es' rs s' f' { a with ev := v } (C + 1) T x cx' w') := by
  have hu1 := h.u.progE h.bx ht h.hx hp hov hat hf1
  have hu2 := hu1.ref hy1.blk hy1.fr.blk he hf2 hv
  have hx2 : Blk w' x ty cx' := hx.of_same (hf2.block x hx.lt (nin_gen hy1.blk hy1.fr.blk hu1.f hx ht2.1 ht2.2 ht.t5 (fun e => absurd e ht.t4) (fun e => absurd e ht.t6) (fun e => absurd e ht.t7)))
  have hz := h.hz
  have hb1 : Below W0.heap.size W0 w1 := h.bb.trans (hf1.below h.bb.size (by
    rw [hz]
    intro j hm
    simp only [List.mem_cons, Option.mem_toList] at hm
    rcases hm with rfl | rfl | rfl | rfl | hm
    · exact h.u.bp
    · exact h.u.bm
    · exact h.u.bg
    · exact h.hx
    · exact (World.ownsRow.lt h.u.v j hm).1))
  have hbw : Below W0.heap.size W0 w' := by
    refine hb1.trans (hf2.below hb1.size (fun j hj => ?_))
    rw [hz]
    obtain ⟨ks, _, hrow, _⟩ := hu1.f.rc
    simp only [EnvA.S, List.mem_cons, List.mem_append, Option.mem_toList] at hj
    rcases hj with rfl | rfl | rfl | rfl | hj | hj
    · exact h.my.bm
    · exact h.my.bg
    · exact h.u.f.hp
    · exact h.u.f.hg
    · exact (World.ownsRow.lt hu1.f.ev j hj).1
    · exact (World.ownsRow.lt hrow j hj).1
  refine ⟨hu2, hx2, hbw, fun hdn => ?_⟩
  rw [if_neg (by rw [hdn]; decide)] at hb
  refine ⟨hu2, hx2, ⟨hb, hfr, h.my.bm, h.my.bg, h.my.hc⟩, hn, hok hdn, hkd.trans h.fk, ?_, h.tn, hbw, h.hx, h.hz⟩
  have := h.sc
  omega
end
theorem ins_c {c : Cfg} {s : St} {f : Fra} (h : 0 ≤ s.c ∧ s.c < 1000000) : s.c ≤ (insertS c s f).1.c ∧ (insertS c s f).1.c ≤ s.c + 1 := by
  unfold insertS
  repeat' split
  all_goals exact go_c _ _ _ h
theorem rem_c {c : Cfg} {s : St} {es : List Ev} {f : Fra} (h : 0 ≤ s.c ∧ s.c < 1000000) : s.c ≤ (removeS c s es f).1.c ∧ (removeS c s es f).1.c ≤ s.c + 1 := by
  unfold removeS
  repeat' split
  all_goals exact go_c _ _ _ h
theorem ins_kd (c : Cfg) (s : St) (f : Fra) : (insertS c s f).2.1.kd = f.kd := by
  unfold insertS
  repeat' split
  all_goals rfl
theorem rem_kd (c : Cfg) (s : St) (es : List Ev) (f : Fra) : (removeS c s es f).2.2.1.kd = f.kd := by
  unfold removeS
  repeat' split
  all_goals (first | rfl | (dsimp only; split <;> rfl))
end Go.Proofs.YtanbjdlaolgepaaGreat

namespace Go.Proofs.YtanbjdlaolgepaaGreat
open Go Go.RowKit Go.Shelf
set_option linter.unusedSimpArgs false
set_option linter.unusedVariables false


theorem copy_inserter {w : World} {q : Nat} {f : Fra} {cd vl : Int} (h : LB w q 112 (ipost f) f cd vl) :
    Calls Tryz.prog 193 #[.pointer (some ⟨q, 0, none⟩)] w fun e w' => e = .returned (.iface 110 (.pointer (some ⟨w.heap.size, 0, none⟩))) ∧ LB w' w.heap.size 112 (ipost f) f cd vl ∧ Below w.heap.size w w' := by
  have c0 : w.cell? ⟨q, 0, none⟩ = some (.int .i64 f.ln) := h.blk.at_ 0
  have c1 : w.cell? ⟨q, 1, none⟩ = some (.int .i64 cd) := h.blk.at_ 1
  have c2 : w.cell? ⟨q, 2, none⟩ = some (.int .i64 vl) := h.blk.at_ 2
  have c3 : w.cell? ⟨q, 3, none⟩ = some (.int .i64 f.fn) := h.blk.at_ 3
  have c4 : w.cell? ⟨q, 4, none⟩ = some (.int .i64 f.fi) := h.blk.at_ 4
  have c5 : w.cell? ⟨q, 5, none⟩ = some (.int .i64 f.fa) := h.blk.at_ 5
  have c6 : w.cell? ⟨q, 6, none⟩ = some (.int .i64 f.fb) := h.blk.at_ 6
  have c7 : w.cell? ⟨q, 7, none⟩ = some (.int .u64 f.fw) := h.blk.at_ 7
  have c8 : w.cell? ⟨q, 8, none⟩ = some (.int .u64 f.fx) := h.blk.at_ 8
  clear h
  go_enter Tryz.func193, Tryz.ntmps193
  go_wp2
  go_ret
  exact ⟨rfl, ⟨Blk.made w _ _, by decide, by decide, by decide, by decide⟩, below_one w _⟩
theorem meth_copy_inserter (q : Nat) (w : World) : (method 328 110 (.pointer (some ⟨q, 0, none⟩)) "Copy").run Tryz.prog w = .ok (193, .pointer (some ⟨q, 0, none⟩)) w := by kernel_rfl
theorem ahead_copy_inserter (q : Nat) (w : World) : (nilAhead 328 110 (.pointer (some ⟨q, 0, none⟩)) "Copy").run Tryz.prog w = .ok (some false) w := by kernel_rfl
theorem odd_inserter : Odd 112 := ⟨by decide, by decide, by decide, by decide, by decide, by decide, by decide, by decide⟩

theorem copy_remover {w : World} {q : Nat} {f : Fra} {cd vl : Int} (h : LB w q 109 (rpost f) f cd vl) :
    Calls Tryz.prog 170 #[.pointer (some ⟨q, 0, none⟩)] w fun e w' => e = .returned (.iface 102 (.pointer (some ⟨w.heap.size, 0, none⟩))) ∧ LB w' w.heap.size 109 (rpost f) f cd vl ∧ Below w.heap.size w w' := by
  have c0 : w.cell? ⟨q, 0, none⟩ = some (.int .i64 f.ln) := h.blk.at_ 0
  have c1 : w.cell? ⟨q, 1, none⟩ = some (.int .i64 cd) := h.blk.at_ 1
  have c2 : w.cell? ⟨q, 2, none⟩ = some (.int .i64 vl) := h.blk.at_ 2
  have c3 : w.cell? ⟨q, 3, none⟩ = some (.int .i64 f.fn) := h.blk.at_ 3
  have c4 : w.cell? ⟨q, 4, none⟩ = some (.int .i64 f.fi) := h.blk.at_ 4
  have c5 : w.cell? ⟨q, 5, none⟩ = some (.int .i64 f.fa) := h.blk.at_ 5
  have c6 : w.cell? ⟨q, 6, none⟩ = some (.int .i64 f.fj) := h.blk.at_ 6
  have c7 : w.cell? ⟨q, 7, none⟩ = some (.int .u64 f.fu) := h.blk.at_ 7
  have c8 : w.cell? ⟨q, 8, none⟩ = some (.int .u64 f.fv) := h.blk.at_ 8
  have c9 : w.cell? ⟨q, 9, none⟩ = some (.int .u64 f.fw) := h.blk.at_ 9
  clear h
  go_enter Tryz.func170, Tryz.ntmps170
  go_wp2
  go_ret
  exact ⟨rfl, ⟨Blk.made w _ _, by decide, by decide, by decide, by decide⟩, below_one w _⟩
theorem meth_copy_remover (q : Nat) (w : World) : (method 328 102 (.pointer (some ⟨q, 0, none⟩)) "Copy").run Tryz.prog w = .ok (170, .pointer (some ⟨q, 0, none⟩)) w := by kernel_rfl
theorem ahead_copy_remover (q : Nat) (w : World) : (nilAhead 328 102 (.pointer (some ⟨q, 0, none⟩)) "Copy").run Tryz.prog w = .ok (some false) w := by kernel_rfl
theorem odd_remover : Odd 109 := ⟨by decide, by decide, by decide, by decide, by decide, by decide, by decide, by decide⟩

end Go.Proofs.YtanbjdlaolgepaaGreat
