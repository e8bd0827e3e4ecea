/-
  A step of the reference's machine beside the program's environment. (Rests on Step8 alone.)
  Peek of the reference's environment.
  Package memory: Store.
  A drawn number, and the contract of the reference's Draw.
-/
import Derived.Test.YtplifdmfoeejaaaGreatMgAJ
import Derived.Test.YtplifdmfoeejaaaGreatMgAV
import Derived.Test.YtplifdmfoeejaaaGreatEnvB
import Derived.Test.YtplifdmfoeejaaaGreatMgAB
import Derived.Test.YtplifdmfoeejaaaGreatRows
import Derived.WalkKit
import Derived.WalkSpells
import Derived.WalkLawsBesides
namespace Go.Proofs.YtplifdmfoeejaaaGreat
open Go Go.RowKit Go.Shelf
set_option linter.unusedSimpArgs false

theorem row_blk {w : World} {base : Nat} {t : TypeId} {s : Nat} {v : Value} {n : Nat} {vs : List Value} (h : w.ownsRow base t s v n vs) {j : Nat} (hj : v.ownBlock = some j) : ∃ cur, Blk w j t cur := by
  rcases h.2 with ⟨rfl, _⟩ | ⟨g, cap, cur, rfl, _, hg, _⟩
  · simp [Value.ownBlock] at hj
  · simp only [Value.ownBlock, Option.some.injEq] at hj
    subst hj
    exact ⟨cur, hg⟩
theorem Mach1.frm {B : Nat} {w w' : World} {m g cap : Nat} {post : List Value} {f : Fra} {S : List Nat} (h : Mach1 B w m g cap post f) (hf : Fr S w w') (h1 : m ∉ S) (h2 : g ∉ S) : Mach1 B w' m g cap post f :=
  ⟨h.blk.of_same (hf.block m h.blk.lt h1), h.fr.fr hf h2, h.bm, h.bg, h.hc⟩

section
variable {w w' : World} {B p m k g cap : Nat} {hd : List Value} {rv ev : Value} {q : Nat} {a : EnvA} {s s' s2 : St} {t t' d : Int} {es es2 : List Ev} {rs rs2 : List Rec}
/-- A block that a step of the reference's machine leaves alone. -/
theorem nin_gen {y gy : Nat} {cy cg : Array Value} (hy : Blk w y 86 cy) (hgy : Blk w gy 42 cg) (he : EnvF B w q a s es rs) {j : Nat} {tj : TypeId} {cj : Array Value} (hj : Blk w j tj cj) (h1 : tj ≠ 86) (h2 : tj ≠ 42) (h3 : tj ≠ 73)
    (h4 : tj = 40 → j ≠ a.g) (h5 : tj = 132 → a.ev.ownBlock ≠ some j) (h6 : tj = 145 → a.rv.ownBlock ≠ some j) : j ∉ y :: gy :: a.S q := by
  intro hm
  obtain ⟨ks, _, hrow, _⟩ := he.rc
  obtain ⟨cur, hb, _⟩ := he.m.row.blk
  simp only [EnvA.S, List.mem_cons, List.mem_append, Option.mem_toList] at hm
  rcases hm with rfl | rfl | rfl | rfl | hm | hm
  · exact h1 (ty_at hj hy)
  · exact h2 (ty_at hj hgy)
  · exact h3 (ty_at hj he.m.blk)
  · exact h4 (ty_at hj hb) rfl
  · obtain ⟨c5, hc5⟩ := row_blk he.ev hm
    exact h5 (ty_at hj hc5) hm
  · obtain ⟨c6, hc6⟩ := row_blk hrow hm
    exact h6 (ty_at hj hc6) hm
theorem Duo.ref (h : Duo w B p m k g cap hd rv ev q a s s2 t d es es2 rs rs2) {y gy : Nat} {cy cg : Array Value} (hy : Blk w y 86 cy) (hgy : Blk w gy 42 cg) {v : Value} {s2' : St} {es2' : List Ev} {rs2' : List Rec}
    (he : EnvF B w' q { a with ev := v } s2' es2' rs2') (hf : Fr (y :: gy :: a.S q) w w') (hv : ∀ x, v.ownBlock = some x → a.ev.ownBlock = some x ∨ w.heap.size ≤ x) : Duo w' B p m k g cap hd rv ev q { a with ev := v } s s2' t d es es2' rs rs2' := by
  obtain ⟨cur, hg, _⟩ := h.e.mem.row.blk
  have n1 := nin_gen hy hgy h.f h.e.blk (by decide) (by decide) (by decide) (fun e => absurd e (by decide)) (fun e => absurd e (by decide)) (fun e => absurd e (by decide))
  have n2 := nin_gen hy hgy h.f h.e.mem.blk (by decide) (by decide) (by decide) (fun e => absurd e (by decide)) (fun e => absurd e (by decide)) (fun e => absurd e (by decide))
  have n3 := nin_gen hy hgy h.f h.e.clk (by decide) (by decide) (by decide) (fun e => absurd e (by decide)) (fun e => absurd e (by decide)) (fun e => absurd e (by decide))
  have n4 := nin_gen hy hgy h.f hg (by decide) (by decide) (by decide) (fun _ => h.gg) (fun e => absurd e (by decide)) (fun e => absurd e (by decide))
  refine ⟨h.e.fr hf n1 n2 n3 n4, row_frS h.v hf (fun j hj => ?_), h.r.frS hf (fun j hj => ?_) (fun j cs hm hk => ?_), he, h.gg, fun x hx hx2 => ?_, h.rr, h.bp, h.bm, h.bk, h.bg⟩
  · obtain ⟨c5, hc5⟩ := row_blk h.v hj
    exact nin_gen hy hgy h.f hc5 (by decide) (by decide) (by decide) (fun e => absurd e (by decide)) (fun _ => h.vv j hj) (fun e => absurd e (by decide))
  · obtain ⟨ks, _, hrow, _⟩ := h.r
    obtain ⟨c5, hc5⟩ := row_blk hrow hj
    exact nin_gen hy hgy h.f hc5 (by decide) (by decide) (by decide) (fun e => absurd e (by decide)) (fun e => absurd e (by decide)) (fun _ => h.rr j hj)
  · exact nin_gen hy hgy h.f (show Blk w j 3 cs from hk) (by decide) (by decide) (by decide) (fun e => absurd e (by decide)) (fun e => absurd e (by decide)) (fun e => absurd e (by decide)) hm
  · rcases hv x hx2 with e | e
    · exact h.vv x hx e
    · have := (World.ownsRow.lt h.v x hx).2
      omega
end

/-- What the comparison of two machines carries along: two equal environments, the program's machine (block x) and the reference's (block y) at the same line. -/
structure MS (W0 : World) (ok : Fra → Prop) (kd : Int) (ty : TypeId) (B p m k g cap : Nat) (hd : List Value) (rv ev : Value) (q y gy cy : Nat) (pst : List Value) (d : Int) (es : List Ev) (rs : List Rec) (s : St) (f : Fra) (a : EnvA) (C T : Int) (x : Nat) (cx : Array Value) (w : World) : Prop where
  u : Duo w B p m k g cap hd rv ev q a s s a.now d es es rs rs
  bx : Blk w x ty cx
  my : Mach1 B w y gy cy pst f
  sn : s.N
  fo : ok f
  fk : f.kd = kd
  sc : 0 ≤ s.c ∧ s.c ≤ C
  tn : 0 ≤ a.now ∧ a.now ≤ T
  bb : Below W0.heap.size W0 w
  hx : B ≤ x
  hz : W0.heap.size = B
section
variable {W0 : World} {ok : Fra → Prop} {kd : Int} {ty : TypeId} {w w' : World} {B p m k g cap : Nat} {hd : List Value} {rv ev : Value} {q y gy cy : Nat} {pst : List Value} {d : Int} {es : List Ev} {rs : List Rec} {s s' : St} {f : Fra} {a : EnvA} {C T : Int} {x : Nat} {cx : Array Value}
theorem MS.below (h : MS W0 ok kd ty B p m k g cap hd rv ev q y gy cy pst d es rs s f a C T x cx w) (hb : Below w.heap.size w w') : MS W0 ok kd ty B p m k g cap hd rv ev q y gy cy pst d es rs s f a C T x cx w' :=
  ⟨h.u.below hb, h.bx.below hb, h.my.frm (Fr.old (S := []) hb) (by simp) (by simp), h.sn, h.fo, h.fk, h.sc, h.tn, h.bb.trans (hb.mono h.bb.size), h.hx, h.hz⟩
theorem MS.up (h : MS W0 ok kd ty B p m k g cap hd rv ev q y gy cy pst d es rs s f a C T x cx w) {C' T' : Int} (hc : C ≤ C') (ht : T ≤ T') : MS W0 ok kd ty B p m k g cap hd rv ev q y gy cy pst d es rs s f a C' T' x cx w :=
  ⟨h.u, h.bx, h.my, h.sn, h.fo, h.fk, ⟨h.sc.1, Int.le_trans h.sc.2 hc⟩, ⟨h.tn.1, Int.le_trans h.tn.2 ht⟩, h.bb, h.hx, h.hz⟩
/-- A cell has been changed in both. -/
theorem MS.dist (h : MS W0 ok kd ty B p m k g cap hd rv ev q y gy cy pst d es rs s f a C T x cx w) (ht : Odd ty) (hu : Duo w' B p m k g cap hd rv ev q a s' s' a.now d es es rs rs) (hn : s'.N) (h1 : s.c ≤ s'.c) (h2 : s'.c ≤ s.c + 1) (hf : Fr [m, g, q, a.g] w w') :
    MS W0 ok kd ty B p m k g cap hd rv ev q y gy cy pst d es rs s' f a (C + 1) T x cx w' := by
  obtain ⟨cur, hg, _⟩ := h.u.e.mem.row.blk
  obtain ⟨cur2, hg2, _⟩ := h.u.f.m.row.blk
  have nin : ∀ {j : Nat} {tj : TypeId} {cj : Array Value}, Blk w j tj cj → tj ≠ 109 → tj ≠ 40 → tj ≠ 73 → j ∉ [m, g, q, a.g] := by
    intro j tj cj hj e1 e2 e3 hm
    simp only [List.mem_cons, List.not_mem_nil, or_false] at hm
    rcases hm with rfl | rfl | rfl | rfl
    · exact e1 (ty_at hj h.u.e.mem.blk)
    · exact e2 (ty_at hj hg)
    · exact e3 (ty_at hj h.u.f.m.blk)
    · exact e2 (ty_at hj hg2)
  refine ⟨hu, h.bx.of_same (hf.block x h.bx.lt (nin h.bx ht.t2 ht.t4 ht.t5)), h.my.frm hf (nin h.my.blk (by decide) (by decide) (by decide)) (nin h.my.fr.blk (by decide) (by decide) (by decide)), hn, h.fo, h.fk, ?_, h.tn, ?_, h.hx, h.hz⟩
  · have := h.sc
    omega
  · have hz := h.hz
    have hsz := h.bb.size
    refine h.bb.trans (hf.below hsz (fun j hj => ?_))
    rw [hz]
    simp only [List.mem_cons, List.not_mem_nil, or_false] at hj
    rcases hj with rfl | rfl | rfl | rfl
    · exact h.u.bm
    · exact h.u.bg
    · exact h.u.f.hp
    · exact h.u.f.hg
/-- Both clocks tick. -/
theorem MS.tick (h : MS W0 ok kd ty B p m k g cap hd rv ev q y gy cy pst d es rs s f a C T x cx w) (ht : Odd ty) (hT : T ≤ 1000000) (hc : Clk w' k (wrap64 (a.now + 1)) d) (hf : Fr [k] w w') :
    MS W0 ok kd ty B p m k g cap hd rv ev q y gy cy pst d es rs s f { a with now := wrap64 (a.now + 1) } C (T + 1) x cx (w'.setCell ⟨q, 17, none⟩ (.int .i64 (wrap64 (a.now + 1)))) := by
  have hu := (h.u.tick hc hf).rnow (wrap64 (a.now + 1))
  have hs : Fr [q] w' (w'.setCell ⟨q, 17, none⟩ (.int .i64 (wrap64 (a.now + 1)))) := (Fr.refl _ _).setCell (by simp) _
  have hfr : Fr [k, q] w (w'.setCell ⟨q, 17, none⟩ (.int .i64 (wrap64 (a.now + 1)))) := (hf.mono (by simp)).trans (hs.mono (by simp))
  have nin : ∀ {j : Nat} {tj : TypeId} {cj : Array Value}, Blk w j tj cj → tj ≠ 128 → tj ≠ 73 → j ∉ [k, q] := by
    intro j tj cj hj e1 e2 hm
    simp only [List.mem_cons, List.not_mem_nil, or_false] at hm
    rcases hm with rfl | rfl
    · exact e1 (ty_at hj h.u.e.clk)
    · exact e2 (ty_at hj h.u.f.m.blk)
  refine ⟨hu, h.bx.of_same (hfr.block x h.bx.lt (nin h.bx ht.t3 ht.t5)), h.my.frm hfr (nin h.my.blk (by decide) (by decide)) (nin h.my.fr.blk (by decide) (by decide)), h.sn, h.fo, h.fk, h.sc, ?_, ?_, h.hx, h.hz⟩
  · show 0 ≤ wrap64 (a.now + 1) ∧ wrap64 (a.now + 1) ≤ T + 1
    have := h.tn
    unfold wrap64
    omega
  · have hz := h.hz
    refine h.bb.trans (hfr.below h.bb.size (fun j hj => ?_))
    rw [hz]
    simp only [List.mem_cons, List.not_mem_nil, or_false] at hj
    rcases hj with rfl | rfl
    · exact h.u.bk
    · exact h.u.f.hp
/-- Both machines have made a step, and are not done. -/
theorem MS.stepped {stp : St → Fra → St × Fra × Res} (hk : Keeps stp ok) (h : MS W0 ok kd ty B p m k g cap hd rv ev q y gy cy pst d es rs s f a C T x cx w) (ht : Odd ty) (ht2 : ty ≠ 86 ∧ ty ≠ 42) (hC : C < 1000000) {w1 : World} {cx' : Array Value} {v : Value}
    (hp : PE w1 p m k g cap (stp s f).1 a.now d hd rv ev) (hx : Blk w1 x ty cx') (hf1 : Fr [m, g, x] w w1) (he : EnvF B w' q { a with ev := v } (stp s f).1 es rs) (hfr : FrameP w' gy 0 [] pst (stp s f).2.1) (hb : Blk w' y 86 (if (stp s f).2.2.dn = true then mcells gy 0 cy true (stp s f).2.2.cd (stp s f).2.2.vl else mcells gy 1 cy false 0 0))
    (hf2 : Fr (y :: gy :: a.S q) w1 w') (hv : ∀ j, v.ownBlock = some j → a.ev.ownBlock = some j ∨ w1.heap.size ≤ j) (hy1 : Mach1 B w1 y gy cy pst f) :
    Duo w' B p m k g cap hd rv ev q { a with ev := v } (stp s f).1 (stp s f).1 a.now d es es rs rs ∧ Blk w' x ty cx' ∧ Below W0.heap.size W0 w' ∧ ((stp s f).2.2.dn = false → MS W0 ok kd ty B p m k g cap hd rv ev q y gy cy pst d es rs (stp s f).1 (stp s f).2.1 { a with ev := v } (C + 1) T x cx' w') := by
  have hu1 := h.u.prog h.bx ht h.hx hp hf1
  have hu2 := hu1.ref hy1.blk hy1.fr.blk he hf2 hv
  have hx2 : Blk w' x ty cx' := hx.of_same (hf2.block x hx.lt (nin_gen hy1.blk hy1.fr.blk hu1.f hx ht2.1 ht2.2 ht.t5 (fun e => absurd e ht.t4) (fun e => absurd e ht.t6) (fun e => absurd e ht.t7)))
  have hz := h.hz
  have hb1 : Below W0.heap.size W0 w1 := h.bb.trans (hf1.below h.bb.size (by rw [hz]; exact h.u.lowX h.hx))
  have hbw : Below W0.heap.size W0 w' := by
    refine hb1.trans (hf2.below hb1.size (fun j hj => ?_))
    rw [hz]
    obtain ⟨ks, _, hrow, _⟩ := hu1.f.rc
    simp only [EnvA.S, List.mem_cons, List.mem_append, Option.mem_toList] at hj
    rcases hj with rfl | rfl | rfl | rfl | hj | hj
    · exact h.my.bm
    · exact h.my.bg
    · exact h.u.f.hp
    · exact h.u.f.hg
    · exact (World.ownsRow.lt hu1.f.ev j hj).1
    · exact (World.ownsRow.lt hrow j hj).1
  refine ⟨hu2, hx2, hbw, fun hdn => ?_⟩
  rw [if_neg (by rw [hdn]; decide)] at hb
  have hc := hk.c s f ⟨h.sc.1, by have := h.sc.2; omega⟩
  refine ⟨hu2, hx2, ⟨hb, hfr, h.my.bm, h.my.bg, h.my.hc⟩, hk.n _ _ h.sn h.fo, hk.o _ _ h.sn h.fo hdn, (hk.q s f).2.2.trans h.fk, ?_, h.tn, hbw, h.hx, h.hz⟩
  have := h.sc
  omega
end
end Go.Proofs.YtplifdmfoeejaaaGreat

namespace Go.Proofs.YtplifdmfoeejaaaGreat
open Go Go.RowKit
set_option linter.unusedSimpArgs false

/-- A cell's contents, without an access. -/
theorem epeek_any {w : World} {p : Nat} {a : EnvA} {s : St} (h : EnvM w p a s) (i : Int) :
    Calls Tryz.prog 50 #[.pointer (some ⟨p, 11, none⟩), .int .i64 i] w fun e w' => e = .returned (.int .u64 (s.old i)) ∧ w = w' := by
  have h0 : w.cell? ⟨p, 11, none⟩ = some (.slice (some ⟨a.g, 0, none⟩) s.X.length a.cap) := h.blk.at_ 11
  have hs := h.small
  by_cases hi : s.has i
  · obtain ⟨j, rfl⟩ : ∃ j : Nat, i = (j : Int) := ⟨i.toNat, by have := hi.1; omega⟩
    have hj : j < s.X.length := by have := hi.2; omega
    have hc := h.row.cell hj
    simp only [St.old, if_pos hi, Int.toNat_natCast]
    generalize s.X.getD j 0 = x at *
    have H := ein_yes h hj
    go_enter Tryz.func50, Tryz.ntmps50
    go_wp2_with fail
    refine H.mono ?_
    rintro e w' ⟨rfl, rfl⟩
    go_wp2
    go_ret
    exact ⟨rfl, rfl⟩
  · have H := Lib.hid (ein_no h (St.has_no hi))
    simp only [St.old, if_neg hi]
    go_enter Tryz.func50, Tryz.ntmps50
    go_wp2_with fail
    refine H.out.mono ?_
    rintro e w' ⟨rfl, rfl⟩
    go_wp2
    go_ret
    exact ⟨rfl, rfl⟩
end Go.Proofs.YtplifdmfoeejaaaGreat

namespace Go.Proofs.YtplifdmfoeejaaaGreat
open Go Go.RowKit Go.Shelf

theorem store_fn (x v : Int) (a : Addr) (w : World) (h : w.cell? a = some (.int .u64 v)) : Calls Tryz.prog 40 #[.int .u64 x, .pointer (some a)] w fun e w' => e = .returned (.int .u64 v) ∧ w = w' := by
  go_enter Tryz.func40, Tryz.ntmps40
  go_wp2
  go_ret
  exact ⟨rfl, rfl⟩

theorem store_any {w : World} {p g cap : Nat} {s : St} (h : Mem w p g cap s) (i v : Int) :
    Calls Tryz.prog 25 #[.pointer (some ⟨p, 0, none⟩), .int .i64 i, .int .u64 v] w fun e w' => e = .returned (.tuple #[]) ∧ Mem w' p g cap (s.go 2 i fun _ => v) ∧ Fr [p, g] w w' := by
  have hc : (w.alloc (.cells #[.int .u64 v] 40)).cell? ⟨w.heap.size, 0, none⟩ = some (.int .u64 v) := (Blk.made w 40 #[.int .u64 v]).at_ 0
  have H := access_any (h.alloc (.cells #[.int .u64 v] 40)) 2 i 40 #[.pointer (some ⟨w.heap.size, 0, none⟩)] _ (enters_of Tryz.func40 (by kernel_rfl) rfl) (fun x => store_fn x v _ _ hc)
  generalize s.old i = x at *
  generalize decide (s.has i) = b at *
  go_enter Tryz.func25, Tryz.ntmps25
  go_wp2_with fail
  refine H.mono ?_
  rintro e w' ⟨rfl, hm, hfr⟩
  go_wp2
  go_end0
  exact ⟨rfl, hm, ((Fr.refl _ _).alloc _).trans hfr⟩
end Go.Proofs.YtplifdmfoeejaaaGreat

namespace Go.Proofs.YtplifdmfoeejaaaGreat
open Go Go.RowKit

/-- The number from 0 to n - 1 that differs from d by a multiple of n; 0 if n is less than 1. -/
def drw (d n : Int) : Int := if n < 1 then 0 else if d.tmod n < 0 then d.tmod n + n else d.tmod n
theorem drw_low (d n : Int) (h : n < 1) : drw d n = 0 := if_pos h
theorem drw_neg (d n : Int) (h : ¬ n < 1) (h' : d.tmod n < 0) : drw d n = d.tmod n + n := by rw [drw, if_neg h, if_pos h']
theorem drw_pos (d n : Int) (h : ¬ n < 1) (h' : ¬ d.tmod n < 0) : drw d n = d.tmod n := by rw [drw, if_neg h, if_neg h']
theorem tmod_in (d n : Int) (h : ¬ n < 1) : -n < d.tmod n ∧ d.tmod n < n := by
  have h1 := Int.tmod_lt_of_pos d (show 0 < n by omega)
  have h2 := Int.lt_tmod_of_pos d (show 0 < n by omega)
  omega
theorem drw_in (d n : Int) (h : 1 ≤ n) : 0 ≤ drw d n ∧ drw d n < n := by
  have hr := tmod_in d n (by omega)
  unfold drw
  rw [if_neg (by omega)]
  split <;> omega
theorem drw_self (d n : Int) (h : 0 ≤ d) (h' : d < n) : drw d n = d := by
  unfold drw
  rw [if_neg (by omega), Int.tmod_eq_of_lt h h', if_neg (by omega)]

theorem rdraw_any (d n : Int) (hn : n ≤ 9223372036854775807) (w : World) :
    Calls Tryz.prog 34 #[.int .i64 d, .int .i64 n] w fun e w' => e = .returned (.int .i64 (drw d n)) ∧ w = w' := by
  by_cases h : n < 1
  · rw [drw_low d n h]
    clear hn
    go_enter Tryz.func34, Tryz.ntmps34
    go_wp2
    go_ret
    exact ⟨rfl, rfl⟩
  · have hr := tmod_in d n h
    by_cases h' : d.tmod n < 0
    · rw [drw_neg d n h h']
      generalize hg : d.tmod n = r at *
      go_enter Tryz.func34, Tryz.ntmps34
      go_wp2
      go_ret
      exact ⟨rfl, rfl⟩
    · rw [drw_pos d n h h']
      generalize hg : d.tmod n = r at *
      have h'' : 0 ≤ r := by omega
      go_enter Tryz.func34, Tryz.ntmps34
      go_wp2
      go_ret
      exact ⟨rfl, rfl⟩
end Go.Proofs.YtplifdmfoeejaaaGreat
