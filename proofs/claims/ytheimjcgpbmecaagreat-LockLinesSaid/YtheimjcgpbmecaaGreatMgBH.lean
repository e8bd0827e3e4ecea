/-
  Package lock, plain mathematics: what Acquire, Try and Release leave in a memory.
  Package memory: Cas.
  Package lock: the lines of its machines.
  Package lock: Step of its machines. (Written by wip/gen_lk.py.)
-/
import Derived.Test.YtheimjcgpbmecaaGreatMgAA
import Derived.Test.YtheimjcgpbmecaaGreatMgAD
import Derived.Test.YtheimjcgpbmecaaGreatMgAR
import Derived.Test.YtheimjcgpbmecaaGreatMgBF
import Derived.Test.YtheimjcgpbmecaaGreatMgAV
namespace Go.Proofs.YtheimjcgpbmecaaGreat
open Go Go.RowKit
set_option linter.unusedSimpArgs false

/-- What the lock contains while owner a holds it. -/
def lkU (a : Int) : Int := IntKind.u64.wrap (IntKind.u64.wrap a + 1)
/-- The state behind an owner's CAS. -/
def lkTake (s : St) (a : Int) : St := s.go 3 1 fun x => if x = 0 then lkU a else x
def acqS (s : St) (f : Fra) : St × Fra × Res := (lkTake s f.fa, f, if s.hit 1 0 then ⟨true, 1, 0⟩ else .none)
def tryS (s : St) (f : Fra) : St × Fra × Res := (lkTake s f.fa, f, if s.hit 1 0 then ⟨true, 1, 0⟩ else ⟨true, 5, 0⟩)
def relS (s : St) (f : Fra) : St × Fra × Res := (s.go 2 1 fun _ => 0, f, ⟨true, 0, 0⟩)
theorem lkU_eq (a : Int) : IntKind.u64.wrap (wrap64 (a + 1)) = lkU a := by
  unfold lkU wrap64
  rw [IntKind.wrap_u64, IntKind.wrap_u64, IntKind.wrap_u64]
  omega
end Go.Proofs.YtheimjcgpbmecaaGreat

namespace Go.Proofs.YtheimjcgpbmecaaGreat
open Go Go.RowKit Go.Shelf

theorem cas_fn (x v u : Int) (a b : Addr) (w : World) (h : w.cell? a = some (.int .u64 v)) (h' : w.cell? b = some (.int .u64 u)) : Calls Tryz.prog 227 #[.int .u64 x, .pointer (some a), .pointer (some b)] w fun e w' => e = .returned (.int .u64 (if x = v then u else x)) ∧ w = w' := by
  by_cases hx : x = v
  · subst hx
    go_enter Tryz.func227, Tryz.ntmps227
    go_wp2
    go_ret
    exact ⟨by simp, rfl⟩
  · have hb : (x == v) = false := by simpa using hx
    go_enter Tryz.func227, Tryz.ntmps227
    go_wp2
    go_ret
    exact ⟨by simp, rfl⟩

theorem cas_any {w : World} {p g cap : Nat} {s : St} (h : Mem w p g cap s) (i v u : Int) :
    Calls Tryz.prog 226 #[.pointer (some ⟨p, 0, none⟩), .int .i64 i, .int .u64 v, .int .u64 u] w fun e w' => e = .returned (.bool (s.hit i v)) ∧ Mem w' p g cap (s.go 3 i fun x => if x = v then u else x) ∧ Fr [p, g] w w' := by
  have hc : ((w.alloc (.cells #[.int .u64 v] 50)).alloc (.cells #[.int .u64 u] 50)).cell? ⟨w.heap.size, 0, none⟩ = some (.int .u64 v) := ((Blk.made w 50 #[.int .u64 v]).of_same (Below.heap_alloc _ _ _ (by simp))).at_ 0
  have hd : ((w.alloc (.cells #[.int .u64 v] 50)).alloc (.cells #[.int .u64 u] 50)).cell? ⟨w.heap.size + 1, 0, none⟩ = some (.int .u64 u) := by
    simp
  have H := access_any ((h.alloc (.cells #[.int .u64 v] 50)).alloc (.cells #[.int .u64 u] 50)) 3 i 227 #[.pointer (some ⟨w.heap.size, 0, none⟩), .pointer (some ⟨w.heap.size + 1, 0, none⟩)] _ (enters_of Tryz.func227 (by kernel_rfl) rfl) (fun x => cas_fn x v u _ _ _ hc hd)
  unfold St.hit
  by_cases hi : s.has i
  · simp only [decide_eq_true hi] at H ⊢
    generalize s.old i = x at *
    clear hd hi
    go_enter Tryz.func226, Tryz.ntmps226
    go_wp2_with fail
    refine H.mono ?_
    rintro e w' ⟨rfl, hm, hfr⟩
    have hc' : w'.cell? ⟨w.heap.size, 0, none⟩ = some (.int .u64 v) := by
      rw [World.cell?_of_block (hfr.block w.heap.size (by simp; omega) (by have := h.blk.lt; have := h.row.lt; simp; omega))]
      exact hc
    clear hc H
    go_wp2
    go_ret
    exact ⟨by simp, hm, (((Fr.refl _ _).alloc _).alloc _).trans hfr⟩
  · simp only [decide_eq_false hi] at H ⊢
    generalize s.old i = x at *
    clear hd hi hc
    go_enter Tryz.func226, Tryz.ntmps226
    go_wp2_with fail
    refine H.mono ?_
    rintro e w' ⟨rfl, hm, hfr⟩
    clear H
    go_wp2
    go_ret
    exact ⟨by simp, hm, (((Fr.refl _ _).alloc _).alloc _).trans hfr⟩
end Go.Proofs.YtheimjcgpbmecaaGreat

namespace Go.Proofs.YtheimjcgpbmecaaGreat
open Go Go.RowKit Go.Shelf
set_option linter.unusedSimpArgs false
set_option linter.unusedVariables false

section
variable {w : World} {p m k g cap : Nat} {s : St} {t d : Int} {hd : List Value} {rv ev : Value} {q : Nat} {f : Fra} {c : Cfg}

set_option maxRecDepth 100000 in
set_option maxHeartbeats 2000000 in
/-- An owner takes the lock if it is free. -/
theorem take_any (hp : PE w p m k g cap s t d hd rv ev) (hl : LayHd hd c) {ty : TypeId} {cs : Array Value} {a : Int} (hb : Blk w q ty cs) (n1 : q ≠ p) (n2 : q ≠ m) (n4 : q ≠ g) (h3 : cs[3]? = some (.int .i64 a)) :
    Calls Tryz.prog 225 #[.pointer (some ⟨q, 0, none⟩), .pointer (some ⟨p, 0, none⟩)] w fun e w' => e = .returned (.bool (s.hit 1 0)) ∧ Mem w' m g cap (lkTake s a) ∧ Fr [m, g] w w' := by
  have P0 := Lib.hid (hp.drewN 1)
  have B0 := Lib.hid (show Blk w.drew q ty cs from hb)
  have HN := Lib.hid (And.intro n1 (And.intro n2 n4))
  have H3 := Lib.hid h3
  have HL := Lib.hid hl
  have F0 := Lib.hid (Fr.refl [m, g] w).drew
  obtain ⟨d0, d1, d2, d3, d4, d5, d6, d7, d8⟩ := P0.out.layS hl
  have d20 : w.drew.cell? ⟨p, 20, none⟩ = some (.pointer (some ⟨m, 0, none⟩)) := P0.out.at20
  have dq : w.drew.cell? ⟨q, 3, none⟩ = some (.int .i64 a) := by rw [B0.out.at_]; exact h3
  change w.drew.cell? _ = _ at d0 d1 d2 d3 d4 d5 d6 d7 d8
  clear hp hb n1 n2 n4 h3 hl
  go_enter Tryz.func225, Tryz.ntmps225
  go_wp2_with fail
  go_region_held3 (fun w' => w'.cell? ⟨p, 11, none⟩ = some (.int .i64 4) ∧ w'.cell? ⟨p, 12, none⟩ = some (.int .i64 (4 + c.he)) ∧ w'.cell? ⟨p, 13, none⟩ = some (.int .i64 (4 + c.he + c.cl)) ∧ w'.cell? ⟨p, 14, none⟩ = some (.int .i64 (4 + c.he + c.cl + c.wo)) ∧ w'.cell? ⟨p, 15, none⟩ = some (.int .i64 (rDeques c)) ∧ w'.cell? ⟨p, 16, none⟩ = some (.int .i64 (rDeques c + rAll c)) ∧ w'.cell? ⟨p, 17, none⟩ = some (.int .i64 (rCells c)) ∧ w'.cell? ⟨p, 18, none⟩ = some (.int .i64 c.le) ∧ w'.cell? ⟨p, 19, none⟩ = some (.int .i64 c.de) ∧ w'.cell? ⟨p, 20, none⟩ = some (.pointer (some ⟨m, 0, none⟩)) ∧ w'.cell? ⟨q, 3, none⟩ = some (.int .i64 a)) ((first | exact ⟨a0, a1, a2, a3, a4, a5, a6, a7, a8, a20, aq⟩ | exact ⟨d0, d1, d2, d3, d4, d5, d6, d7, d8, d20, dq⟩ | go_keep))
    (first
     | (go_at_call 222
        refine (llock_any (c := c)).mono ?_
        rintro e w1 ⟨rfl, hb⟩
        have P1 := Lib.hid (P0.out.below hb)
        have B1 := Lib.hid (B0.out.below hb)
        have F1 := Lib.hid (F0.out.trans (Fr.old hb))
        obtain ⟨a0, a1, a2, a3, a4, a5, a6, a7, a8⟩ := P1.out.layS HL.out
        have a20 : w1.cell? ⟨p, 20, none⟩ = some (.pointer (some ⟨m, 0, none⟩)) := P1.out.at20
        have aq : w1.cell? ⟨q, 3, none⟩ = some (.int .i64 a) := by rw [B1.out.at_]; exact H3.out
        clear hb)
     | (go_at_call 226
        refine (cas_any P1.out.mem _ _ _).mono ?_
        rintro e w2 ⟨rfl, hm, hf⟩
        have HM := Lib.hid hm
        have HF := Lib.hid hf
        have B2 := Lib.hid (B1.out.of_same (hf.block q B1.out.lt (by simp [HN.out.2.1, HN.out.2.2])))
        have P2 := Lib.hid (P1.out.acc hm hf)
        obtain ⟨a0, a1, a2, a3, a4, a5, a6, a7, a8⟩ := P2.out.layS HL.out
        have a20 : w2.cell? ⟨p, 20, none⟩ = some (.pointer (some ⟨m, 0, none⟩)) := P2.out.at20
        have aq : w2.cell? ⟨q, 3, none⟩ = some (.int .i64 a) := by rw [B2.out.at_]; exact H3.out
        clear hm hf))
  go_wp2
  go_ret
  exact ⟨rfl, HM.out, F1.out.trans HF.out⟩
end
end Go.Proofs.YtheimjcgpbmecaaGreat

namespace Go.Proofs.YtheimjcgpbmecaaGreat
open Go Go.RowKit Go.Shelf
set_option linter.unusedSimpArgs false
set_option linter.unusedVariables false


section
variable {w : World} {p m k g cap : Nat} {s : St} {t d : Int} {hd : List Value} {rv ev : Value} {q : Nat} {f : Fra} {c : Cfg}

set_option maxRecDepth 100000 in
set_option maxHeartbeats 2000000 in
theorem acquirer_hit (hp : PE w p m k g cap s t d hd rv ev) (hlay : LayHd hd c) (h : LB w q 155 [.int .i64 f.fa] f 0 0) (hl : f.ln = 1) (hh : s.hit 1 0 = true) :
    Calls Tryz.prog 224 #[.pointer (some ⟨q, 0, none⟩), .pointer (some ⟨p, 0, none⟩)] w (LStepped w p m k g cap (lkTake s f.fa) t d hd rv ev q 155 [.int .i64 f.fa] f ⟨true, 1, 0⟩) := by
  have P0 := Lib.hid hp
  have B0 := Lib.hid h
  have F0 := Lib.hid (Fr.refl [m, g, q] w)
  have HL := Lib.hid hlay
  clear hp h hlay
  have hc0 := lline_any B0.out
  rw [hl] at hc0
  have HC0 := Lib.hid hc0
  clear hc0
  go_enter Tryz.func224, Tryz.ntmps224
  go_wp2_with fail
  (with_reducible refine HC0.out.mono ?_)
  rintro e wx ⟨rfl, rfl⟩
  clear HC0
  have HK := take_any P0.out HL.out B0.out.blk (B0.out.ne P0.out).1 (B0.out.ne P0.out).2.1 (B0.out.ne P0.out).2.2.2 rfl
  rw [hh] at HK
  have HT := Lib.hid HK
  clear HK
  go_wp2_with fail
  (with_reducible refine HT.out.mono ?_)
  rintro e W1 ⟨rfl, hm, hf⟩
  have P1 := Lib.hid (P0.out.acc hm hf)
  have B1 := Lib.hid (B0.out.acc P0.out hf)
  have F1 := Lib.hid (F0.out.trans (hf.mono (by simp)))
  clear hm hf HT
  clear P0 B0 F0
  go_wp2_with fail
  (with_reducible refine (lend_any B1.out 1 0).mono ?_)
  rintro e W2 ⟨rfl, hb, hf⟩
  have P2 := Lib.hid (P1.out.lown B1.out hf)
  have B2 := Lib.hid hb
  have F2 := Lib.hid (F1.out.trans (hf.mono (by simp)))
  clear hb hf
  clear P1 B1 F1
  go_wp2
  go_ret
  exact ⟨rfl, P2.out, B2.out, F2.out⟩

set_option maxRecDepth 100000 in
set_option maxHeartbeats 2000000 in
theorem acquirer_miss (hp : PE w p m k g cap s t d hd rv ev) (hlay : LayHd hd c) (h : LB w q 155 [.int .i64 f.fa] f 0 0) (hl : f.ln = 1) (hh : s.hit 1 0 = false) :
    Calls Tryz.prog 224 #[.pointer (some ⟨q, 0, none⟩), .pointer (some ⟨p, 0, none⟩)] w (LStepped w p m k g cap (lkTake s f.fa) t d hd rv ev q 155 [.int .i64 f.fa] f .none) := by
  have P0 := Lib.hid hp
  have B0 := Lib.hid h
  have F0 := Lib.hid (Fr.refl [m, g, q] w)
  have HL := Lib.hid hlay
  clear hp h hlay
  have hc0 := lline_any B0.out
  rw [hl] at hc0
  have HC0 := Lib.hid hc0
  clear hc0
  go_enter Tryz.func224, Tryz.ntmps224
  go_wp2_with fail
  (with_reducible refine HC0.out.mono ?_)
  rintro e wx ⟨rfl, rfl⟩
  clear HC0
  have HK := take_any P0.out HL.out B0.out.blk (B0.out.ne P0.out).1 (B0.out.ne P0.out).2.1 (B0.out.ne P0.out).2.2.2 rfl
  rw [hh] at HK
  have HT := Lib.hid HK
  clear HK
  go_wp2_with fail
  (with_reducible refine HT.out.mono ?_)
  rintro e W1 ⟨rfl, hm, hf⟩
  have P1 := Lib.hid (P0.out.acc hm hf)
  have B1 := Lib.hid (B0.out.acc P0.out hf)
  have F1 := Lib.hid (F0.out.trans (hf.mono (by simp)))
  clear hm hf HT
  clear P0 B0 F0
  go_wp2_with fail
  (with_reducible refine (lnext_any B1.out 1).mono ?_)
  rintro e W2 ⟨rfl, hb, hf⟩
  have P2 := Lib.hid (P1.out.lown B1.out hf)
  have B2 := Lib.hid hb
  have F2 := Lib.hid (F1.out.trans (hf.mono (by simp)))
  clear hb hf
  clear P1 B1 F1
  go_wp2
  go_ret
  have hf : ({ f with ln := 1 } : Fra) = f := by rw [← hl]
  have hB := B2.out
  rw [hf] at hB
  exact ⟨rfl, P2.out, hB, F2.out⟩

theorem acquirer_any (hp : PE w p m k g cap s t d hd rv ev) (hlay : LayHd hd c) (h : LB w q 155 [.int .i64 f.fa] f 0 0) (hl : f.ln = 1) :
    Calls Tryz.prog 224 #[.pointer (some ⟨q, 0, none⟩), .pointer (some ⟨p, 0, none⟩)] w (LStepped w p m k g cap (acqS s f).1 t d hd rv ev q 155 [.int .i64 f.fa] (acqS s f).2.1 (acqS s f).2.2) := by
  unfold acqS
  cases hh : s.hit 1 0 with
  | true => exact acquirer_hit hp hlay h hl hh
  | false => exact acquirer_miss hp hlay h hl hh

set_option maxRecDepth 100000 in
set_option maxHeartbeats 2000000 in
theorem trier_hit (hp : PE w p m k g cap s t d hd rv ev) (hlay : LayHd hd c) (h : LB w q 157 [.int .i64 f.fa] f 0 0) (hl : f.ln = 1) (hh : s.hit 1 0 = true) :
    Calls Tryz.prog 229 #[.pointer (some ⟨q, 0, none⟩), .pointer (some ⟨p, 0, none⟩)] w (LStepped w p m k g cap (lkTake s f.fa) t d hd rv ev q 157 [.int .i64 f.fa] f ⟨true, 1, 0⟩) := by
  have P0 := Lib.hid hp
  have B0 := Lib.hid h
  have F0 := Lib.hid (Fr.refl [m, g, q] w)
  have HL := Lib.hid hlay
  clear hp h hlay
  have hc0 := lline_any B0.out
  rw [hl] at hc0
  have HC0 := Lib.hid hc0
  clear hc0
  go_enter Tryz.func229, Tryz.ntmps229
  go_wp2_with fail
  (with_reducible refine HC0.out.mono ?_)
  rintro e wx ⟨rfl, rfl⟩
  clear HC0
  have HK := take_any P0.out HL.out B0.out.blk (B0.out.ne P0.out).1 (B0.out.ne P0.out).2.1 (B0.out.ne P0.out).2.2.2 rfl
  rw [hh] at HK
  have HT := Lib.hid HK
  clear HK
  go_wp2_with fail
  (with_reducible refine HT.out.mono ?_)
  rintro e W1 ⟨rfl, hm, hf⟩
  have P1 := Lib.hid (P0.out.acc hm hf)
  have B1 := Lib.hid (B0.out.acc P0.out hf)
  have F1 := Lib.hid (F0.out.trans (hf.mono (by simp)))
  clear hm hf HT
  clear P0 B0 F0
  go_wp2_with fail
  (with_reducible refine (lend_any B1.out 1 0).mono ?_)
  rintro e W2 ⟨rfl, hb, hf⟩
  have P2 := Lib.hid (P1.out.lown B1.out hf)
  have B2 := Lib.hid hb
  have F2 := Lib.hid (F1.out.trans (hf.mono (by simp)))
  clear hb hf
  clear P1 B1 F1
  go_wp2
  go_ret
  exact ⟨rfl, P2.out, B2.out, F2.out⟩

set_option maxRecDepth 100000 in
set_option maxHeartbeats 2000000 in
theorem trier_miss (hp : PE w p m k g cap s t d hd rv ev) (hlay : LayHd hd c) (h : LB w q 157 [.int .i64 f.fa] f 0 0) (hl : f.ln = 1) (hh : s.hit 1 0 = false) :
    Calls Tryz.prog 229 #[.pointer (some ⟨q, 0, none⟩), .pointer (some ⟨p, 0, none⟩)] w (LStepped w p m k g cap (lkTake s f.fa) t d hd rv ev q 157 [.int .i64 f.fa] f ⟨true, 5, 0⟩) := by
  have P0 := Lib.hid hp
  have B0 := Lib.hid h
  have F0 := Lib.hid (Fr.refl [m, g, q] w)
  have HL := Lib.hid hlay
  clear hp h hlay
  have hc0 := lline_any B0.out
  rw [hl] at hc0
  have HC0 := Lib.hid hc0
  clear hc0
  go_enter Tryz.func229, Tryz.ntmps229
  go_wp2_with fail
  (with_reducible refine HC0.out.mono ?_)
  rintro e wx ⟨rfl, rfl⟩
  clear HC0
  have HK := take_any P0.out HL.out B0.out.blk (B0.out.ne P0.out).1 (B0.out.ne P0.out).2.1 (B0.out.ne P0.out).2.2.2 rfl
  rw [hh] at HK
  have HT := Lib.hid HK
  clear HK
  go_wp2_with fail
  (with_reducible refine HT.out.mono ?_)
  rintro e W1 ⟨rfl, hm, hf⟩
  have P1 := Lib.hid (P0.out.acc hm hf)
  have B1 := Lib.hid (B0.out.acc P0.out hf)
  have F1 := Lib.hid (F0.out.trans (hf.mono (by simp)))
  clear hm hf HT
  clear P0 B0 F0
  go_wp2_with fail
  (with_reducible refine (lend_any B1.out 5 0).mono ?_)
  rintro e W2 ⟨rfl, hb, hf⟩
  have P2 := Lib.hid (P1.out.lown B1.out hf)
  have B2 := Lib.hid hb
  have F2 := Lib.hid (F1.out.trans (hf.mono (by simp)))
  clear hb hf
  clear P1 B1 F1
  go_wp2
  go_ret
  exact ⟨rfl, P2.out, B2.out, F2.out⟩

theorem trier_any (hp : PE w p m k g cap s t d hd rv ev) (hlay : LayHd hd c) (h : LB w q 157 [.int .i64 f.fa] f 0 0) (hl : f.ln = 1) :
    Calls Tryz.prog 229 #[.pointer (some ⟨q, 0, none⟩), .pointer (some ⟨p, 0, none⟩)] w (LStepped w p m k g cap (tryS s f).1 t d hd rv ev q 157 [.int .i64 f.fa] (tryS s f).2.1 (tryS s f).2.2) := by
  unfold tryS
  cases hh : s.hit 1 0 with
  | true => exact trier_hit hp hlay h hl hh
  | false => exact trier_miss hp hlay h hl hh

set_option maxRecDepth 100000 in
set_option maxHeartbeats 2000000 in
theorem releaser_any (hp : PE w p m k g cap s t d hd rv ev) (hlay : LayHd hd c) (h : LB w q 150 [] f 0 0) (hl : f.ln = 1) :
    Calls Tryz.prog 221 #[.pointer (some ⟨q, 0, none⟩), .pointer (some ⟨p, 0, none⟩)] w (LStepped w p m k g cap (relS s f).1 t d hd rv ev q 150 [] f (relS s f).2.2) := by
  have P0 := Lib.hid hp
  have B0 := Lib.hid h
  have F0 := Lib.hid (Fr.refl [m, g, q] w)
  have HL := Lib.hid hlay
  clear hp h hlay
  have hc0 := lline_any B0.out
  rw [hl] at hc0
  have HC0 := Lib.hid hc0
  clear hc0
  go_enter Tryz.func221, Tryz.ntmps221
  go_wp2_with fail
  (with_reducible refine HC0.out.mono ?_)
  rintro e wx ⟨rfl, rfl⟩
  clear HC0
  have P1 := Lib.hid (P0.out.drewN 1)
  have B1 := Lib.hid B0.out.drew
  have F1 := Lib.hid F0.out.drew
  have HG := Lib.hid (B0.out.ne P0.out)
  obtain ⟨d0, d1, d2, d3, d4, d5, d6, d7, d8⟩ := P1.out.layS HL.out
  have d20 : w.drew.cell? ⟨p, 20, none⟩ = some (.pointer (some ⟨m, 0, none⟩)) := P1.out.at20
  change w.drew.cell? _ = _ at d0 d1 d2 d3 d4 d5 d6 d7 d8
  clear P0 B0 F0
  go_wp2_with fail
  go_region_held3 (fun w' => w'.cell? ⟨p, 11, none⟩ = some (.int .i64 4) ∧ w'.cell? ⟨p, 12, none⟩ = some (.int .i64 (4 + c.he)) ∧ w'.cell? ⟨p, 13, none⟩ = some (.int .i64 (4 + c.he + c.cl)) ∧ w'.cell? ⟨p, 14, none⟩ = some (.int .i64 (4 + c.he + c.cl + c.wo)) ∧ w'.cell? ⟨p, 15, none⟩ = some (.int .i64 (rDeques c)) ∧ w'.cell? ⟨p, 16, none⟩ = some (.int .i64 (rDeques c + rAll c)) ∧ w'.cell? ⟨p, 17, none⟩ = some (.int .i64 (rCells c)) ∧ w'.cell? ⟨p, 18, none⟩ = some (.int .i64 c.le) ∧ w'.cell? ⟨p, 19, none⟩ = some (.int .i64 c.de) ∧ w'.cell? ⟨p, 20, none⟩ = some (.pointer (some ⟨m, 0, none⟩))) ((first | exact ⟨a0, a1, a2, a3, a4, a5, a6, a7, a8, a20⟩ | exact ⟨d0, d1, d2, d3, d4, d5, d6, d7, d8, d20⟩ | go_keep))
    (first
     | (go_at_call 222
        refine (llock_any (c := c)).mono ?_
        rintro e w1 ⟨rfl, hb⟩
        have P2 := Lib.hid (P1.out.below hb)
        have B2 := Lib.hid (B1.out.below hb)
        have F2 := Lib.hid (F1.out.trans (Fr.old hb))
        obtain ⟨a0, a1, a2, a3, a4, a5, a6, a7, a8⟩ := P2.out.layS HL.out
        have a20 : w1.cell? ⟨p, 20, none⟩ = some (.pointer (some ⟨m, 0, none⟩)) := P2.out.at20
        clear hb)
     | (go_at_call 16
        refine (store_any P2.out.mem _ _).mono ?_
        rintro e w2 ⟨rfl, hm, hf⟩
        have P3 := Lib.hid (P2.out.acc hm hf)
        have B3 := Lib.hid (B2.out.acc P2.out hf)
        have F3 := Lib.hid (F2.out.trans (hf.mono (by simp)))
        obtain ⟨a0, a1, a2, a3, a4, a5, a6, a7, a8⟩ := P3.out.layS HL.out
        have a20 : w2.cell? ⟨p, 20, none⟩ = some (.pointer (some ⟨m, 0, none⟩)) := P3.out.at20
        clear hm hf))
  clear a0 a1 a2 a3 a4 a5 a6 a7 a8 a20 d0 d1 d2 d3 d4 d5 d6 d7 d8 d20 P1 B1 F1 P2 B2 F2
  go_wp2_with fail
  (with_reducible refine (lend_any B3.out 0 0).mono ?_)
  rintro e W2 ⟨rfl, hb, hf⟩
  have P4 := Lib.hid (P3.out.lown B3.out hf)
  have B4 := Lib.hid hb
  have F4 := Lib.hid (F3.out.trans (hf.mono (by simp)))
  clear hb hf
  clear P3 B3 F3
  go_wp2
  go_ret
  exact ⟨rfl, P4.out, B4.out, F4.out⟩

set_option maxRecDepth 100000 in
/-- One that is done. -/
theorem acquirer_over {ty : TypeId} {post : List Value} {cd vl : Int} (h : LB w q ty post { f with ln := 0 } cd vl) (v : Value) :
    Calls Tryz.prog 224 #[.pointer (some ⟨q, 0, none⟩), v] w fun e w' => e = .returned (.bool true) ∧ w = w' := by
  have HC := Lib.hid (lline_any h)
  clear h
  go_enter Tryz.func224, Tryz.ntmps224
  go_wp2_with fail
  (with_reducible refine HC.out.mono ?_)
  rintro e wx ⟨rfl, rfl⟩
  go_wp2
  go_ret
  exact ⟨rfl, rfl⟩

set_option maxRecDepth 100000 in
/-- One that is done. -/
theorem trier_over {ty : TypeId} {post : List Value} {cd vl : Int} (h : LB w q ty post { f with ln := 0 } cd vl) (v : Value) :
    Calls Tryz.prog 229 #[.pointer (some ⟨q, 0, none⟩), v] w fun e w' => e = .returned (.bool true) ∧ w = w' := by
  have HC := Lib.hid (lline_any h)
  clear h
  go_enter Tryz.func229, Tryz.ntmps229
  go_wp2_with fail
  (with_reducible refine HC.out.mono ?_)
  rintro e wx ⟨rfl, rfl⟩
  go_wp2
  go_ret
  exact ⟨rfl, rfl⟩

set_option maxRecDepth 100000 in
/-- One that is done. -/
theorem releaser_over {ty : TypeId} {post : List Value} {cd vl : Int} (h : LB w q ty post { f with ln := 0 } cd vl) (v : Value) :
    Calls Tryz.prog 221 #[.pointer (some ⟨q, 0, none⟩), v] w fun e w' => e = .returned (.bool true) ∧ w = w' := by
  have HC := Lib.hid (lline_any h)
  clear h
  go_enter Tryz.func221, Tryz.ntmps221
  go_wp2_with fail
  (with_reducible refine HC.out.mono ?_)
  rintro e wx ⟨rfl, rfl⟩
  go_wp2
  go_ret
  exact ⟨rfl, rfl⟩

end
end Go.Proofs.YtheimjcgpbmecaaGreat
