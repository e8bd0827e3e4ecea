/-
  workstealmatch.Alone of the machines of package lock, where their first step ends it. (Written by wip/gen_lk.py.)
  Package memory: Or.
  Package memory: And.
  Package bitmap: at.
  Package bitmap: its flags, the lines of Set and Clear. (Written by wip/gen_bm.py.)
-/
import Derived.Test.YtheimjcgpbmecaaGreatMgBK
import Derived.Test.YtheimjcgpbmecaaGreatMgAR
import Derived.Test.YtheimjcgpbmecaaGreatMgBF
import Derived.Test.YtheimjcgpbmecaaGreatMgAI
import Derived.Test.YtheimjcgpbmecaaGreatMgBI
namespace Go.Proofs.YtheimjcgpbmecaaGreat
open Go Go.RowKit Go.Shelf
set_option linter.unusedSimpArgs false
set_option linter.unusedVariables false


set_option maxRecDepth 100000 in
set_option maxHeartbeats 4000000 in
theorem alone_acquirer {w : World} {p m k g cap : Nat} {s : St} {t d : Int} {hd : List Value} {rv ev : Value} {q : Nat} {f : Fra} {c : Cfg} {most : Int} (hp : PE w p m k g cap s t d hd rv ev) (hlay : LayHd hd c) (h : LB w q 155 [.int .i64 f.fa] f 0 0) (hl : f.ln = 1) (hd1 : (acqS s f).2.2.dn = true) (hm : 0 < most) :
    Calls Tryz.prog 58 #[.pointer (some ⟨p, 0, none⟩), .iface 151 (.pointer (some ⟨q, 0, none⟩)), .int .i64 most] w (Aloned w p m k g cap (acqS s f).1 t d hd rv ev q (acqS s f).2.2 1) := by
  have HS := Lib.hid (acquirer_any hp hlay h hl)
  have HD := Lib.hid hd1
  clear hp hlay h hl hd1
  generalize acqS s f = y at *
  have km := meth_step_acquirer q
  have ka := ahead_step_acquirer q
  have kr := meth_result_acquirer q
  have kb := ahead_result_acquirer q
  go_enter Tryz.func58, Tryz.ntmps58
  go_wp2_with fail
  go_loopw [8] (fun i wr => i = .int .i64 0 ∧ wr = w) (fun _ _ => 0)
  case atStart => exact ⟨rfl, rfl⟩
  case round =>
    obtain ⟨rfl, rfl⟩ := hrel
    go_wp2_with fail
    (with_reducible refine HS.out.mono ?_)
    rintro e w1 ⟨rfl, hp1, hb1, hf1⟩
    rw [HD.out, if_pos rfl] at hb1
    have B1 := Lib.hid hb1
    have P1 := Lib.hid hp1
    have F1 := Lib.hid hf1
    clear hb1 hp1 hf1
    rw [HD.out]
    go_wp2_with fail
    (with_reducible refine (lresult_any B1.out).mono ?_)
    rintro e w2 ⟨rfl, nd, rfl⟩
    go_wp2_with fail
    go_ret3
    exact ⟨rfl, P1.out.drewN nd, F1.out.drewN nd⟩

set_option maxRecDepth 100000 in
set_option maxHeartbeats 4000000 in
theorem alone_trier {w : World} {p m k g cap : Nat} {s : St} {t d : Int} {hd : List Value} {rv ev : Value} {q : Nat} {f : Fra} {c : Cfg} {most : Int} (hp : PE w p m k g cap s t d hd rv ev) (hlay : LayHd hd c) (h : LB w q 157 [.int .i64 f.fa] f 0 0) (hl : f.ln = 1) (hd1 : (tryS s f).2.2.dn = true) (hm : 0 < most) :
    Calls Tryz.prog 58 #[.pointer (some ⟨p, 0, none⟩), .iface 156 (.pointer (some ⟨q, 0, none⟩)), .int .i64 most] w (Aloned w p m k g cap (tryS s f).1 t d hd rv ev q (tryS s f).2.2 1) := by
  have HS := Lib.hid (trier_any hp hlay h hl)
  have HD := Lib.hid hd1
  clear hp hlay h hl hd1
  generalize tryS s f = y at *
  have km := meth_step_trier q
  have ka := ahead_step_trier q
  have kr := meth_result_trier q
  have kb := ahead_result_trier q
  go_enter Tryz.func58, Tryz.ntmps58
  go_wp2_with fail
  go_loopw [8] (fun i wr => i = .int .i64 0 ∧ wr = w) (fun _ _ => 0)
  case atStart => exact ⟨rfl, rfl⟩
  case round =>
    obtain ⟨rfl, rfl⟩ := hrel
    go_wp2_with fail
    (with_reducible refine HS.out.mono ?_)
    rintro e w1 ⟨rfl, hp1, hb1, hf1⟩
    rw [HD.out, if_pos rfl] at hb1
    have B1 := Lib.hid hb1
    have P1 := Lib.hid hp1
    have F1 := Lib.hid hf1
    clear hb1 hp1 hf1
    rw [HD.out]
    go_wp2_with fail
    (with_reducible refine (lresult_any B1.out).mono ?_)
    rintro e w2 ⟨rfl, nd, rfl⟩
    go_wp2_with fail
    go_ret3
    exact ⟨rfl, P1.out.drewN nd, F1.out.drewN nd⟩

set_option maxRecDepth 100000 in
set_option maxHeartbeats 4000000 in
theorem alone_releaser {w : World} {p m k g cap : Nat} {s : St} {t d : Int} {hd : List Value} {rv ev : Value} {q : Nat} {f : Fra} {c : Cfg} {most : Int} (hp : PE w p m k g cap s t d hd rv ev) (hlay : LayHd hd c) (h : LB w q 150 [] f 0 0) (hl : f.ln = 1) (hd1 : (relS s f).2.2.dn = true) (hm : 0 < most) :
    Calls Tryz.prog 58 #[.pointer (some ⟨p, 0, none⟩), .iface 147 (.pointer (some ⟨q, 0, none⟩)), .int .i64 most] w (Aloned w p m k g cap (relS s f).1 t d hd rv ev q (relS s f).2.2 1) := by
  have HS := Lib.hid (releaser_any hp hlay h hl)
  have HD := Lib.hid hd1
  clear hp hlay h hl hd1
  generalize relS s f = y at *
  have km := meth_step_releaser q
  have ka := ahead_step_releaser q
  have kr := meth_result_releaser q
  have kb := ahead_result_releaser q
  go_enter Tryz.func58, Tryz.ntmps58
  go_wp2_with fail
  go_loopw [8] (fun i wr => i = .int .i64 0 ∧ wr = w) (fun _ _ => 0)
  case atStart => exact ⟨rfl, rfl⟩
  case round =>
    obtain ⟨rfl, rfl⟩ := hrel
    go_wp2_with fail
    (with_reducible refine HS.out.mono ?_)
    rintro e w1 ⟨rfl, hp1, hb1, hf1⟩
    rw [HD.out, if_pos rfl] at hb1
    have B1 := Lib.hid hb1
    have P1 := Lib.hid hp1
    have F1 := Lib.hid hf1
    clear hb1 hp1 hf1
    rw [HD.out]
    go_wp2_with fail
    (with_reducible refine (lresult_any B1.out).mono ?_)
    rintro e w2 ⟨rfl, nd, rfl⟩
    go_wp2_with fail
    go_ret3
    exact ⟨rfl, P1.out.drewN nd, F1.out.drewN nd⟩

end Go.Proofs.YtheimjcgpbmecaaGreat

namespace Go.Proofs.YtheimjcgpbmecaaGreat
open Go Go.RowKit Go.Shelf

theorem or_fn (x v : Int) (a : Addr) (w : World) (h : w.cell? a = some (.int .u64 v)) : Calls Tryz.prog 241 #[.int .u64 x, .pointer (some a)] w fun e w' => e = .returned (.int .u64 (bits .or .u64 x v)) ∧ w = w' := by
  go_enter Tryz.func241, Tryz.ntmps241
  go_wp2
  go_ret
  exact ⟨rfl, rfl⟩

theorem or_any {w : World} {p g cap : Nat} {s : St} (h : Mem w p g cap s) (i v : Int) :
    Calls Tryz.prog 240 #[.pointer (some ⟨p, 0, none⟩), .int .i64 i, .int .u64 v] w fun e w' => e = .returned (.int .u64 (s.old i)) ∧ Mem w' p g cap (s.go 4 i fun x => bits .or .u64 x v) ∧ Fr [p, g] w w' := by
  have hc : (w.alloc (.cells #[.int .u64 v] 50)).cell? ⟨w.heap.size, 0, none⟩ = some (.int .u64 v) := (Blk.made w 50 #[.int .u64 v]).at_ 0
  have H := access_any (h.alloc (.cells #[.int .u64 v] 50)) 4 i 241 #[.pointer (some ⟨w.heap.size, 0, none⟩)] _ (enters_of Tryz.func241 (by kernel_rfl) rfl) (fun x => or_fn x v _ _ hc)
  generalize s.old i = x at *
  generalize decide (s.has i) = b at *
  go_enter Tryz.func240, Tryz.ntmps240
  go_wp2_with fail
  refine H.mono ?_
  rintro e w' ⟨rfl, hm, hfr⟩
  go_wp2
  go_ret
  exact ⟨rfl, hm, ((Fr.refl _ _).alloc _).trans hfr⟩
end Go.Proofs.YtheimjcgpbmecaaGreat

namespace Go.Proofs.YtheimjcgpbmecaaGreat
open Go Go.RowKit Go.Shelf

theorem and_fn (x v : Int) (a : Addr) (w : World) (h : w.cell? a = some (.int .u64 v)) : Calls Tryz.prog 249 #[.int .u64 x, .pointer (some a)] w fun e w' => e = .returned (.int .u64 (bits .and .u64 x v)) ∧ w = w' := by
  go_enter Tryz.func249, Tryz.ntmps249
  go_wp2
  go_ret
  exact ⟨rfl, rfl⟩

theorem and_any {w : World} {p g cap : Nat} {s : St} (h : Mem w p g cap s) (i v : Int) :
    Calls Tryz.prog 248 #[.pointer (some ⟨p, 0, none⟩), .int .i64 i, .int .u64 v] w fun e w' => e = .returned (.int .u64 (s.old i)) ∧ Mem w' p g cap (s.go 5 i fun x => bits .and .u64 x v) ∧ Fr [p, g] w w' := by
  have hc : (w.alloc (.cells #[.int .u64 v] 50)).cell? ⟨w.heap.size, 0, none⟩ = some (.int .u64 v) := (Blk.made w 50 #[.int .u64 v]).at_ 0
  have H := access_any (h.alloc (.cells #[.int .u64 v] 50)) 5 i 249 #[.pointer (some ⟨w.heap.size, 0, none⟩)] _ (enters_of Tryz.func249 (by kernel_rfl) rfl) (fun x => and_fn x v _ _ hc)
  generalize s.old i = x at *
  generalize decide (s.has i) = b at *
  go_enter Tryz.func248, Tryz.ntmps248
  go_wp2_with fail
  refine H.mono ?_
  rintro e w' ⟨rfl, hm, hfr⟩
  go_wp2
  go_ret
  exact ⟨rfl, hm, ((Fr.refl _ _).alloc _).trans hfr⟩
end Go.Proofs.YtheimjcgpbmecaaGreat

namespace Go.Proofs.YtheimjcgpbmecaaGreat
open Go Go.RowKit Go.Shelf
set_option linter.unusedSimpArgs false
set_option linter.unusedVariables false

set_option maxHeartbeats 1000000 in
/-- A bit of a cell. -/
theorem at_any (c b : Int) (w : World) : Calls Tryz.prog 206 #[.int .i64 c, .int .i64 b] w fun e w' => e = .returned (.agg #[.int .i64 c, .int .u64 (maskS b)]) ∧ Below w.heap.size w w' := by
  have hX := Blk.made w 262 #[.int .i64 0, .int .u64 0]
  have hB := below_one w (.cells #[.int .i64 0, .int .u64 0] 262)
  have HX := Lib.hid hX
  have HB := Lib.hid hB
  clear hX hB
  unfold maskS
  have key : ∀ x : Int, (x < 0 ∨ 63 < x) → Calls Tryz.prog 206 #[.int .i64 c, .int .i64 x] w fun e w' => e = .returned (.agg #[.int .i64 c, .int .u64 0]) ∧ Below w.heap.size w w' := by
    intro x hx
    by_cases h0 : x < 0
    · go_enter Tryz.func206, Tryz.ntmps206
      go_upto_region 1 with fail
      generalize w.alloc (.cells #[.int .i64 0, .int .u64 0] 262) = W1 at *
      have c0 := HX.out.at_ 0
      have c1 := HX.out.at_ 1
      have f0 := HX.out.free 0
      have f1 := HX.out.free 1
      go_wp2
      have HY := ((HX.out.put 0 (.int .i64 c)).put 1 (.int .u64 0))
      have HF : Fr [w.heap.size] W1 ((W1.setCell ⟨w.heap.size, 0, none⟩ (.int .i64 c)).setCell ⟨w.heap.size, 1, none⟩ (.int .u64 0)) := ((Fr.refl _ _).setCell (by simp) _).setCell (by simp) _
      refine bodyPost_ret (results_cell_row (P := Tryz.prog) Tryz.results206 _ _ w.heap.size 262 _ (0, 0) _ rfl HY Tryz.underlying262 rfl (by kernel_rfl)) rfl ?_
      exact ⟨rfl, below_of_fr HB.out HF (fun y hy => by simp at hy; omega)⟩
    · have h1 : 64 ≤ x := by omega
      go_enter Tryz.func206, Tryz.ntmps206
      go_upto_region 1 with fail
      generalize w.alloc (.cells #[.int .i64 0, .int .u64 0] 262) = W1 at *
      have c0 := HX.out.at_ 0
      have c1 := HX.out.at_ 1
      have f0 := HX.out.free 0
      have f1 := HX.out.free 1
      go_wp2
      have HY := ((HX.out.put 0 (.int .i64 c)).put 1 (.int .u64 0))
      have HF : Fr [w.heap.size] W1 ((W1.setCell ⟨w.heap.size, 0, none⟩ (.int .i64 c)).setCell ⟨w.heap.size, 1, none⟩ (.int .u64 0)) := ((Fr.refl _ _).setCell (by simp) _).setCell (by simp) _
      refine bodyPost_ret (results_cell_row (P := Tryz.prog) Tryz.results206 _ _ w.heap.size 262 _ (0, 0) _ rfl HY Tryz.underlying262 rfl (by kernel_rfl)) rfl ?_
      exact ⟨rfl, below_of_fr HB.out HF (fun y hy => by simp at hy; omega)⟩
  by_cases hb : b < 0 ∨ 63 < b
  · rw [if_pos hb]
    exact key b hb
  · rw [if_neg hb]
    obtain ⟨k, rfl⟩ : ∃ k : Nat, b = (k : Int) := ⟨b.toNat, by omega⟩
    rw [Int.toNat_natCast]
    have hk : k < 64 := by omega
    have h0 : decide ((k : Int) < 0) = false := by simp
    have h1 : decide ((64 : Int) ≤ (k : Int)) = false := by simp; omega
    go_enter Tryz.func206, Tryz.ntmps206
    go_upto_region 1 with fail
    generalize w.alloc (.cells #[.int .i64 0, .int .u64 0] 262) = W1 at *
    have c0 := HX.out.at_ 0
    have c1 := HX.out.at_ 1
    have f0 := HX.out.free 0
    have f1 := HX.out.free 1
    go_wp2
    have hpw : IntKind.u64.wrap ((2 : Int) ^ k) = ((2 ^ k : Nat) : Int) := by
      have h2 : ((2 : Int) ^ k) = ((2 ^ k : Nat) : Int) := by simp
      have h3 : (2 : Nat) ^ k ≤ 2 ^ 63 := Nat.pow_le_pow_right (by decide) (by omega)
      rw [h2, IntKind.wrap_u64]
      generalize (2 : Nat) ^ k = P at *
      omega
    rw [hpw]
    generalize (2 ^ k : Nat) = P at *
    have HY := ((HX.out.put 0 (.int .i64 c)).put 1 (.int .u64 (P : Int)))
    have HF : Fr [w.heap.size] W1 ((W1.setCell ⟨w.heap.size, 0, none⟩ (.int .i64 c)).setCell ⟨w.heap.size, 1, none⟩ (.int .u64 (P : Int))) := ((Fr.refl _ _).setCell (by simp) _).setCell (by simp) _
    refine bodyPost_ret (results_cell_row (P := Tryz.prog) Tryz.results206 _ _ w.heap.size 262 _ (0, 0) _ rfl HY Tryz.underlying262 rfl (by kernel_rfl)) rfl ?_
    exact ⟨rfl, below_of_fr HB.out HF (fun y hy => by simp at hy; omega)⟩
end Go.Proofs.YtheimjcgpbmecaaGreat

namespace Go.Proofs.YtheimjcgpbmecaaGreat
open Go Go.RowKit Go.Shelf
set_option linter.unusedSimpArgs false
set_option linter.unusedVariables false

section
variable {w : World} {p m k g cap : Nat} {s : St} {t d : Int} {hd : List Value} {rv ev : Value} {q : Nat} {f : Fra}

set_option maxRecDepth 100000 in
set_option maxHeartbeats 2000000 in
theorem raise_any (hp : PE w p m k g cap s t d hd rv ev) {o : Nat} {ty : TypeId} {cs : Array Value} {c x : Int} (hb : Blk w q ty cs) (n2 : q ≠ m) (n4 : q ≠ g) (h0 : cs[o]? = some (.int .i64 c)) (h1 : cs[o + 1]? = some (.int .u64 x)) :
    Calls Tryz.prog 239 #[.pointer (some ⟨q, o, none⟩), .pointer (some ⟨p, 0, none⟩)] w fun e w' => e = .returned (.tuple #[]) ∧ Mem w' m g cap (s.go 4 c fun y => bits .or .u64 y x) ∧ Fr [m, g] w w' := by
  have P0 := Lib.hid (hp.drewN 1)
  have B0 := Lib.hid (show Blk w.drew q ty cs from hb)
  have HN := Lib.hid (And.intro n2 n4)
  have H0 := Lib.hid (And.intro h0 h1)
  have d20 : w.drew.cell? ⟨p, 20, none⟩ = some (.pointer (some ⟨m, 0, none⟩)) := P0.out.at20
  have d0 : w.drew.cell? ⟨q, o, none⟩ = some (.int .i64 c) := by rw [B0.out.at_]; exact h0
  have d1 : w.drew.cell? ⟨q, o + 1, none⟩ = some (.int .u64 x) := by rw [B0.out.at_]; exact h1
  clear hp hb n2 n4 h0 h1
  go_enter Tryz.func239, Tryz.ntmps239
  go_wp2_with fail
  go_region_held3 (fun w' => w'.cell? ⟨p, 20, none⟩ = some (.pointer (some ⟨m, 0, none⟩)) ∧ w'.cell? ⟨q, o, none⟩ = some (.int .i64 c) ∧ w'.cell? ⟨q, o + 1, none⟩ = some (.int .u64 x)) ((first | exact ⟨a20, a0, a1⟩ | exact ⟨d20, d0, d1⟩ | go_keep))
    ((go_at_call 240
      refine (or_any P0.out.mem _ _).mono ?_
      rintro e w1 ⟨rfl, hm, hf⟩
      have HM := Lib.hid hm
      have HF := Lib.hid hf
      have B1 := Lib.hid (show Blk w1 q ty cs from B0.out.of_same (hf.block q B0.out.lt (by simp [HN.out.1, HN.out.2])))
      have a20 : w1.cell? ⟨p, 20, none⟩ = some (.pointer (some ⟨m, 0, none⟩)) := (P0.out.acc hm hf).at20
      have a0 : w1.cell? ⟨q, o, none⟩ = some (.int .i64 c) := by rw [B1.out.at_]; exact H0.out.1
      have a1 : w1.cell? ⟨q, o + 1, none⟩ = some (.int .u64 x) := by rw [B1.out.at_]; exact H0.out.2
      clear hm hf))
  go_end0
  exact ⟨rfl, HM.out, (Fr.refl _ _).drew.trans HF.out⟩

set_option maxRecDepth 100000 in
set_option maxHeartbeats 2000000 in
theorem lower_any (hp : PE w p m k g cap s t d hd rv ev) {o : Nat} {ty : TypeId} {cs : Array Value} {c x : Int} (hb : Blk w q ty cs) (n2 : q ≠ m) (n4 : q ≠ g) (h0 : cs[o]? = some (.int .i64 c)) (h1 : cs[o + 1]? = some (.int .u64 x)) :
    Calls Tryz.prog 247 #[.pointer (some ⟨q, o, none⟩), .pointer (some ⟨p, 0, none⟩)] w fun e w' => e = .returned (.tuple #[]) ∧ Mem w' m g cap (s.go 5 c fun y => bits .and .u64 y (notU x)) ∧ Fr [m, g] w w' := by
  have P0 := Lib.hid (hp.drewN 1)
  have B0 := Lib.hid (show Blk w.drew q ty cs from hb)
  have HN := Lib.hid (And.intro n2 n4)
  have H0 := Lib.hid (And.intro h0 h1)
  have d20 : w.drew.cell? ⟨p, 20, none⟩ = some (.pointer (some ⟨m, 0, none⟩)) := P0.out.at20
  have d0 : w.drew.cell? ⟨q, o, none⟩ = some (.int .i64 c) := by rw [B0.out.at_]; exact h0
  have d1 : w.drew.cell? ⟨q, o + 1, none⟩ = some (.int .u64 x) := by rw [B0.out.at_]; exact h1
  clear hp hb n2 n4 h0 h1
  go_enter Tryz.func247, Tryz.ntmps247
  go_wp2_with fail
  go_region_held3 (fun w' => w'.cell? ⟨p, 20, none⟩ = some (.pointer (some ⟨m, 0, none⟩)) ∧ w'.cell? ⟨q, o, none⟩ = some (.int .i64 c) ∧ w'.cell? ⟨q, o + 1, none⟩ = some (.int .u64 x)) ((first | exact ⟨a20, a0, a1⟩ | exact ⟨d20, d0, d1⟩ | go_keep))
    ((go_at_call 248
      refine (and_any P0.out.mem _ _).mono ?_
      rintro e w1 ⟨rfl, hm, hf⟩
      have HM := Lib.hid hm
      have HF := Lib.hid hf
      have B1 := Lib.hid (show Blk w1 q ty cs from B0.out.of_same (hf.block q B0.out.lt (by simp [HN.out.1, HN.out.2])))
      have a20 : w1.cell? ⟨p, 20, none⟩ = some (.pointer (some ⟨m, 0, none⟩)) := (P0.out.acc hm hf).at20
      have a0 : w1.cell? ⟨q, o, none⟩ = some (.int .i64 c) := by rw [B1.out.at_]; exact H0.out.1
      have a1 : w1.cell? ⟨q, o + 1, none⟩ = some (.int .u64 x) := by rw [B1.out.at_]; exact H0.out.2
      clear hm hf))
  go_end0
  exact ⟨rfl, HM.out, (Fr.refl _ _).drew.trans HF.out⟩

set_option maxRecDepth 100000 in
set_option maxHeartbeats 2000000 in
theorem clearer_1 (hp : PE w p m k g cap s t d hd rv ev) (h : OB w q 273 [.int .i64 f.fa, .int .u64 (maskS f.fb)] f 0 0) (hl : f.ln = 1) :
    Calls Tryz.prog 246 #[.pointer (some ⟨q, 0, none⟩), .pointer (some ⟨p, 0, none⟩)] w (PStepped w p m k g cap (s.go 5 f.fa (fun x => bits .and .u64 x (notU (maskS f.fb)))) t d hd rv ev q 273 [.int .i64 f.fa, .int .u64 (maskS f.fb)] { f with ln := 2 } .none) := by
  have hqp : p ≠ q := (h.ne hp).1.symm
  have P0 := Lib.hid hp
  have B0 := Lib.hid h
  have F0 := Lib.hid (Fr.refl [m, g, q] w)
  clear hp h
  have hc0 := oline_any B0.out
  rw [hl] at hc0
  have HC0 := Lib.hid hc0
  clear hc0
  go_enter Tryz.func246, Tryz.ntmps246
  go_wp2_with fail
  (with_reducible refine HC0.out.mono ?_)
  rintro e wx ⟨rfl, rfl⟩
  clear HC0
  go_wp2_with fail
  (with_reducible refine (lower_any P0.out  B0.out.blk (B0.out.ne P0.out).2.1 (B0.out.ne P0.out).2.2.2 (o := 9) rfl rfl).mono ?_)
  rintro e W1 ⟨rfl, hm, hf⟩
  have P1 := Lib.hid (P0.out.acc hm hf)
  have B1 := Lib.hid (B0.out.acc P0.out hf)
  have F1 := Lib.hid (F0.out.trans (hf.mono (by simp)))
  clear hm hf
  clear P0 B0 F0
  go_wp2_with fail
  (with_reducible refine (onext_any B1.out 2).mono ?_)
  rintro e W2 ⟨rfl, hb, hf⟩
  have P2 := Lib.hid (P1.out.own B1.out hf)
  have B2 := Lib.hid hb
  have F2 := Lib.hid (F1.out.trans (hf.mono (by simp)))
  clear hb hf
  clear P1 B1 F1
  go_wp2
  go_ret
  exact ⟨rfl, P2.out, B2.out, F2.out⟩
set_option maxRecDepth 100000 in
set_option maxHeartbeats 2000000 in
theorem clearer_2 (hp : PE w p m k g cap s t d hd rv ev) (h : OB w q 273 [.int .i64 f.fa, .int .u64 (maskS f.fb)] f 0 0) (hl : f.ln = 2) :
    Calls Tryz.prog 246 #[.pointer (some ⟨q, 0, none⟩), .pointer (some ⟨p, 0, none⟩)] w (PStepped w p m k g cap (s.go 1 f.qb id) t d hd rv ev q 273 [.int .i64 f.fa, .int .u64 (maskS f.fb)] { f with fu := s.old f.qb, ln := 3 } .none) := by
  have hqp : p ≠ q := (h.ne hp).1.symm
  have P0 := Lib.hid hp
  have B0 := Lib.hid h
  have F0 := Lib.hid (Fr.refl [m, g, q] w)
  clear hp h
  have hc0 := oline_any B0.out
  rw [hl] at hc0
  have HC0 := Lib.hid hc0
  clear hc0
  go_enter Tryz.func246, Tryz.ntmps246
  go_wp2_with fail
  (with_reducible refine HC0.out.mono ?_)
  rintro e wx ⟨rfl, rfl⟩
  clear HC0
  go_wp2_with fail
  (with_reducible refine (oloadBottom_any P0.out B0.out).mono ?_)
  rintro e W1 ⟨rfl, hp, hb, hf⟩
  have P1 := Lib.hid hp
  have B1 := Lib.hid hb
  have F1 := Lib.hid (F0.out.trans hf)
  clear hp hb hf
  clear P0 B0 F0
  go_wp2_with fail
  (with_reducible refine (onext_any B1.out 3).mono ?_)
  rintro e W2 ⟨rfl, hb, hf⟩
  have P2 := Lib.hid (P1.out.own B1.out hf)
  have B2 := Lib.hid hb
  have F2 := Lib.hid (F1.out.trans (hf.mono (by simp)))
  clear hb hf
  clear P1 B1 F1
  go_wp2
  go_ret
  exact ⟨rfl, P2.out, B2.out, F2.out⟩
set_option maxRecDepth 100000 in
set_option maxHeartbeats 2000000 in
theorem clearer_3e (hp : PE w p m k g cap s t d hd rv ev) (h : OB w q 273 [.int .i64 f.fa, .int .u64 (maskS f.fb)] f 0 0) (hl : f.ln = 3) (hc : sizeI f.fu (s.old f.qt) ≤ 0) :
    Calls Tryz.prog 246 #[.pointer (some ⟨q, 0, none⟩), .pointer (some ⟨p, 0, none⟩)] w (PStepped w p m k g cap (s.go 1 f.qt id) t d hd rv ev q 273 [.int .i64 f.fa, .int .u64 (maskS f.fb)] { f with fv := s.old f.qt } ⟨true, 2, 0⟩) := by
  have hqp : p ≠ q := (h.ne hp).1.symm
  have P0 := Lib.hid hp
  have B0 := Lib.hid h
  have F0 := Lib.hid (Fr.refl [m, g, q] w)
  clear hp h
  have hc0 := oline_any B0.out
  rw [hl] at hc0
  have HC0 := Lib.hid hc0
  clear hc0
  go_enter Tryz.func246, Tryz.ntmps246
  go_wp2_with fail
  (with_reducible refine HC0.out.mono ?_)
  rintro e wx ⟨rfl, rfl⟩
  clear HC0
  have hcb : decide (sizeI f.fu (s.old f.qt) ≤ 0) = true := by simpa using hc
  go_wp2_with fail
  (with_reducible refine (oloadTop_any P0.out B0.out).mono ?_)
  rintro e W1 ⟨rfl, hp, hb, hf⟩
  have P1 := Lib.hid hp
  have B1 := Lib.hid hb
  have F1 := Lib.hid (F0.out.trans hf)
  clear hp hb hf
  clear P0 B0 F0
  go_wp2_with fail
  have c7 : W1.cell? ⟨q, 7, none⟩ = some (.int .u64 f.fu) := B1.out.at_ 7 (by omega)
  have hq := fun (n : Nat) => (osize_any (B1.out.drewN n) (f.fu)).mono (fun e w' (h : e = .returned (.int .i64 (sizeI (f.fu) (s.old f.qt))) ∧ _ = w') => (⟨h.1, h.2.symm⟩ : e = .returned (.int .i64 (sizeI (f.fu) (s.old f.qt))) ∧ w' = _))
  go_quiet ((go_at_call 235; exact Calls.quiet_of_same (hq _)))
  have P2 := Lib.hid (P1.out.drewN nq)
  have B2 := Lib.hid (B1.out.drewN nq)
  have F2 := Lib.hid (F1.out.drewN nq)
  clear c7
  clear hq
  generalize W1.drewN nq = W2 at *
  clear P1 B1 F1
  go_wp2_with fail
  (with_reducible refine (oend_any B2.out 2 0).mono ?_)
  rintro e W3 ⟨rfl, hb, hf⟩
  have P3 := Lib.hid (P2.out.own B2.out hf)
  have B3 := Lib.hid hb
  have F3 := Lib.hid (F2.out.trans (hf.mono (by simp)))
  clear hb hf
  clear P2 B2 F2
  go_wp2
  go_ret
  exact ⟨rfl, P3.out, B3.out, F3.out⟩
set_option maxRecDepth 100000 in
set_option maxHeartbeats 2000000 in
theorem clearer_3 (hp : PE w p m k g cap s t d hd rv ev) (h : OB w q 273 [.int .i64 f.fa, .int .u64 (maskS f.fb)] f 0 0) (hl : f.ln = 3) (hc : ¬ sizeI f.fu (s.old f.qt) ≤ 0) :
    Calls Tryz.prog 246 #[.pointer (some ⟨q, 0, none⟩), .pointer (some ⟨p, 0, none⟩)] w (PStepped w p m k g cap (s.go 1 f.qt id) t d hd rv ev q 273 [.int .i64 f.fa, .int .u64 (maskS f.fb)] { f with fv := s.old f.qt, ln := 4 } .none) := by
  have hqp : p ≠ q := (h.ne hp).1.symm
  have P0 := Lib.hid hp
  have B0 := Lib.hid h
  have F0 := Lib.hid (Fr.refl [m, g, q] w)
  clear hp h
  have hc0 := oline_any B0.out
  rw [hl] at hc0
  have HC0 := Lib.hid hc0
  clear hc0
  go_enter Tryz.func246, Tryz.ntmps246
  go_wp2_with fail
  (with_reducible refine HC0.out.mono ?_)
  rintro e wx ⟨rfl, rfl⟩
  clear HC0
  have hcb : decide (sizeI f.fu (s.old f.qt) ≤ 0) = false := by simpa using hc
  go_wp2_with fail
  (with_reducible refine (oloadTop_any P0.out B0.out).mono ?_)
  rintro e W1 ⟨rfl, hp, hb, hf⟩
  have P1 := Lib.hid hp
  have B1 := Lib.hid hb
  have F1 := Lib.hid (F0.out.trans hf)
  clear hp hb hf
  clear P0 B0 F0
  go_wp2_with fail
  have c7 : W1.cell? ⟨q, 7, none⟩ = some (.int .u64 f.fu) := B1.out.at_ 7 (by omega)
  have hq := fun (n : Nat) => (osize_any (B1.out.drewN n) (f.fu)).mono (fun e w' (h : e = .returned (.int .i64 (sizeI (f.fu) (s.old f.qt))) ∧ _ = w') => (⟨h.1, h.2.symm⟩ : e = .returned (.int .i64 (sizeI (f.fu) (s.old f.qt))) ∧ w' = _))
  go_quiet ((go_at_call 235; exact Calls.quiet_of_same (hq _)))
  have P2 := Lib.hid (P1.out.drewN nq)
  have B2 := Lib.hid (B1.out.drewN nq)
  have F2 := Lib.hid (F1.out.drewN nq)
  clear c7
  clear hq
  generalize W1.drewN nq = W2 at *
  clear P1 B1 F1
  go_wp2_with fail
  (with_reducible refine (onext_any B2.out 4).mono ?_)
  rintro e W3 ⟨rfl, hb, hf⟩
  have P3 := Lib.hid (P2.out.own B2.out hf)
  have B3 := Lib.hid hb
  have F3 := Lib.hid (F2.out.trans (hf.mono (by simp)))
  clear hb hf
  clear P2 B2 F2
  go_wp2
  go_ret
  exact ⟨rfl, P3.out, B3.out, F3.out⟩
set_option maxRecDepth 100000 in
set_option maxHeartbeats 2000000 in
theorem clearer_4 (hp : PE w p m k g cap s t d hd rv ev) (h : OB w q 273 [.int .i64 f.fa, .int .u64 (maskS f.fb)] f 0 0) (hl : f.ln = 4) :
    Calls Tryz.prog 246 #[.pointer (some ⟨q, 0, none⟩), .pointer (some ⟨p, 0, none⟩)] w (PStepped w p m k g cap (s.go 4 f.fa (fun x => bits .or .u64 x (maskS f.fb))) t d hd rv ev q 273 [.int .i64 f.fa, .int .u64 (maskS f.fb)] f ⟨true, 1, 0⟩) := by
  have hqp : p ≠ q := (h.ne hp).1.symm
  have P0 := Lib.hid hp
  have B0 := Lib.hid h
  have F0 := Lib.hid (Fr.refl [m, g, q] w)
  clear hp h
  have hc0 := oline_any B0.out
  rw [hl] at hc0
  have HC0 := Lib.hid hc0
  clear hc0
  go_enter Tryz.func246, Tryz.ntmps246
  go_wp2_with fail
  (with_reducible refine HC0.out.mono ?_)
  rintro e wx ⟨rfl, rfl⟩
  clear HC0
  go_wp2_with fail
  (with_reducible refine (raise_any P0.out  B0.out.blk (B0.out.ne P0.out).2.1 (B0.out.ne P0.out).2.2.2 (o := 9) rfl rfl).mono ?_)
  rintro e W1 ⟨rfl, hm, hf⟩
  have P1 := Lib.hid (P0.out.acc hm hf)
  have B1 := Lib.hid (B0.out.acc P0.out hf)
  have F1 := Lib.hid (F0.out.trans (hf.mono (by simp)))
  clear hm hf
  clear P0 B0 F0
  go_wp2_with fail
  (with_reducible refine (oend_any B1.out 1 0).mono ?_)
  rintro e W2 ⟨rfl, hb, hf⟩
  have P2 := Lib.hid (P1.out.own B1.out hf)
  have B2 := Lib.hid hb
  have F2 := Lib.hid (F1.out.trans (hf.mono (by simp)))
  clear hb hf
  clear P1 B1 F1
  go_wp2
  go_ret
  exact ⟨rfl, P2.out, B2.out, F2.out⟩
set_option maxRecDepth 100000 in
/-- A clearer that is done. -/
theorem clearer_over {ty : TypeId} {post : List Value} {cd vl : Int} (h : OB w q ty post { f with ln := 0 } cd vl) (v : Value) :
    Calls Tryz.prog 246 #[.pointer (some ⟨q, 0, none⟩), v] w fun e w' => e = .returned (.bool true) ∧ w = w' := by
  have HC := Lib.hid (oline_any h)
  clear h
  go_enter Tryz.func246, Tryz.ntmps246
  go_wp2_with fail
  (with_reducible refine HC.out.mono ?_)
  rintro e wx ⟨rfl, rfl⟩
  go_wp2
  go_ret
  exact ⟨rfl, rfl⟩
theorem clearer_any (hp : PE w p m k g cap s t d hd rv ev) (h : OB w q 273 [.int .i64 f.fa, .int .u64 (maskS f.fb)] f 0 0) (hl : f.ln = 1 ∨ f.ln = 2 ∨ f.ln = 3 ∨ f.ln = 4) :
    Calls Tryz.prog 246 #[.pointer (some ⟨q, 0, none⟩), .pointer (some ⟨p, 0, none⟩)] w (PStepped w p m k g cap (clearS s f).1 t d hd rv ev q 273 [.int .i64 (clearS s f).2.1.fa, .int .u64 (maskS (clearS s f).2.1.fb)] (clearS s f).2.1 (clearS s f).2.2) := by
  rcases hl with hl | hl | hl | hl
  · rw [clearS, if_pos hl]
    exact clearer_1 hp h hl
  · rw [clearS, if_neg (show ¬ f.ln = 1 by omega), if_pos hl]
    exact clearer_2 hp h hl
  · rw [clearS, if_neg (show ¬ f.ln = 1 by omega), if_neg (show ¬ f.ln = 2 by omega), if_pos hl]
    by_cases hc : sizeI f.fu (s.old f.qt) ≤ 0
    · rw [if_pos hc]
      exact clearer_3e hp h hl hc
    · rw [if_neg hc]
      exact clearer_3 hp h hl hc
  · rw [clearS, if_neg (show ¬ f.ln = 1 by omega), if_neg (show ¬ f.ln = 2 by omega), if_neg (show ¬ f.ln = 3 by omega)]
    exact clearer_4 hp h hl

set_option maxRecDepth 100000 in
set_option maxHeartbeats 2000000 in
theorem setter_any (hp : PE w p m k g cap s t d hd rv ev) (h : LB w q 265 [.int .i64 f.fa, .int .u64 (maskS f.fb)] f 0 0) (hl : f.ln = 1) :
    Calls Tryz.prog 238 #[.pointer (some ⟨q, 0, none⟩), .pointer (some ⟨p, 0, none⟩)] w (LStepped w p m k g cap (setS s f).1 t d hd rv ev q 265 [.int .i64 (setS s f).2.1.fa, .int .u64 (maskS (setS s f).2.1.fb)] (setS s f).2.1 (setS s f).2.2) := by
  have P0 := Lib.hid hp
  have B0 := Lib.hid h
  have F0 := Lib.hid (Fr.refl [m, g, q] w)
  clear hp h
  have hc0 := lline_any B0.out
  rw [hl] at hc0
  have HC0 := Lib.hid hc0
  clear hc0
  go_enter Tryz.func238, Tryz.ntmps238
  go_wp2_with fail
  (with_reducible refine HC0.out.mono ?_)
  rintro e wx ⟨rfl, rfl⟩
  clear HC0
  go_wp2_with fail
  (with_reducible refine (raise_any P0.out B0.out.blk (B0.out.ne P0.out).2.1 (B0.out.ne P0.out).2.2.2 (o := 3) rfl rfl).mono ?_)
  rintro e W1 ⟨rfl, hm, hf⟩
  have P1 := Lib.hid (P0.out.acc hm hf)
  have B1 := Lib.hid (B0.out.acc P0.out hf)
  have F1 := Lib.hid (F0.out.trans (hf.mono (by simp)))
  clear hm hf
  clear P0 B0 F0
  go_wp2_with fail
  (with_reducible refine (lend_any B1.out 0 0).mono ?_)
  rintro e W2 ⟨rfl, hb, hf⟩
  have P2 := Lib.hid (P1.out.lown B1.out hf)
  have B2 := Lib.hid hb
  have F2 := Lib.hid (F1.out.trans (hf.mono (by simp)))
  clear hb hf
  clear P1 B1 F1
  go_wp2
  go_ret
  exact ⟨rfl, P2.out, B2.out, F2.out⟩
set_option maxRecDepth 100000 in
/-- A setter that is done. -/
theorem setter_over {ty : TypeId} {post : List Value} {cd vl : Int} (h : LB w q ty post { f with ln := 0 } cd vl) (v : Value) :
    Calls Tryz.prog 238 #[.pointer (some ⟨q, 0, none⟩), v] w fun e w' => e = .returned (.bool true) ∧ w = w' := by
  have HC := Lib.hid (lline_any h)
  clear h
  go_enter Tryz.func238, Tryz.ntmps238
  go_wp2_with fail
  (with_reducible refine HC.out.mono ?_)
  rintro e wx ⟨rfl, rfl⟩
  go_wp2
  go_ret
  exact ⟨rfl, rfl⟩
end
end Go.Proofs.YtheimjcgpbmecaaGreat
