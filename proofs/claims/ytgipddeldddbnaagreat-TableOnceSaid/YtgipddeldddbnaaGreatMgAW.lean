/-
  Package memory: Or.
  Package memory: And.
  Package bitmap: at.
  Package bitmap: its flags, the lines of Set and Clear. (Written by wip/gen_bm.py.)
  Package bitmap: Set and Clear, the methods of their machines. (Written by wip/gen_bm.py.)
-/
import Derived.Test.YtgipddeldddbnaaGreatMgAH
import Derived.Test.YtgipddeldddbnaaGreatMgAM
import Derived.Test.YtgipddeldddbnaaGreatMgAB
import Derived.Test.YtgipddeldddbnaaGreatOwB
import Derived.Test.YtgipddeldddbnaaGreatMgAV
namespace Go.Proofs.YtgipddeldddbnaaGreat
open Go Go.RowKit Go.Shelf

theorem or_fn (x v : Int) (a : Addr) (w : World) (h : w.cell? a = some (.int .u64 v)) : Calls Tryz.prog 120 #[.int .u64 x, .pointer (some a)] w fun e w' => e = .returned (.int .u64 (bits .or .u64 x v)) ∧ w = w' := by
  go_enter Tryz.func120, Tryz.ntmps120
  go_wp2
  go_ret
  exact ⟨rfl, rfl⟩

theorem or_any {w : World} {p g cap : Nat} {s : St} (h : Mem w p g cap s) (i v : Int) :
    Calls Tryz.prog 119 #[.pointer (some ⟨p, 0, none⟩), .int .i64 i, .int .u64 v] w fun e w' => e = .returned (.int .u64 (s.old i)) ∧ Mem w' p g cap (s.go 4 i fun x => bits .or .u64 x v) ∧ Fr [p, g] w w' := by
  have hc : (w.alloc (.cells #[.int .u64 v] 103)).cell? ⟨w.heap.size, 0, none⟩ = some (.int .u64 v) := (Blk.made w 103 #[.int .u64 v]).at_ 0
  have H := access_any (h.alloc (.cells #[.int .u64 v] 103)) 4 i 120 #[.pointer (some ⟨w.heap.size, 0, none⟩)] _ (enters_of Tryz.func120 (by kernel_rfl) rfl) (fun x => or_fn x v _ _ hc)
  generalize s.old i = x at *
  generalize decide (s.has i) = b at *
  go_enter Tryz.func119, Tryz.ntmps119
  go_wp2_with fail
  refine H.mono ?_
  rintro e w' ⟨rfl, hm, hfr⟩
  go_wp2
  go_ret
  exact ⟨rfl, hm, ((Fr.refl _ _).alloc _).trans hfr⟩
end Go.Proofs.YtgipddeldddbnaaGreat

namespace Go.Proofs.YtgipddeldddbnaaGreat
open Go Go.RowKit Go.Shelf

end Go.Proofs.YtgipddeldddbnaaGreat

namespace Go.Proofs.YtgipddeldddbnaaGreat
open Go Go.RowKit Go.Shelf
set_option linter.unusedSimpArgs false
set_option linter.unusedVariables false

set_option maxHeartbeats 1000000 in
/-- A bit of a cell. -/
theorem at_any (c b : Int) (w : World) : Calls Tryz.prog 107 #[.int .i64 c, .int .i64 b] w fun e w' => e = .returned (.agg #[.int .i64 c, .int .u64 (maskS b)]) ∧ Below w.heap.size w w' := by
  have hX := Blk.made w 173 #[.int .i64 0, .int .u64 0]
  have hB := below_one w (.cells #[.int .i64 0, .int .u64 0] 173)
  have HX := Lib.hid hX
  have HB := Lib.hid hB
  clear hX hB
  unfold maskS
  have key : ∀ x : Int, (x < 0 ∨ 63 < x) → Calls Tryz.prog 107 #[.int .i64 c, .int .i64 x] w fun e w' => e = .returned (.agg #[.int .i64 c, .int .u64 0]) ∧ Below w.heap.size w w' := by
    intro x hx
    by_cases h0 : x < 0
    · go_enter Tryz.func107, Tryz.ntmps107
      go_upto_region 1 with fail
      generalize w.alloc (.cells #[.int .i64 0, .int .u64 0] 173) = W1 at *
      have c0 := HX.out.at_ 0
      have c1 := HX.out.at_ 1
      have f0 := HX.out.free 0
      have f1 := HX.out.free 1
      go_wp2
      have HY := ((HX.out.put 0 (.int .i64 c)).put 1 (.int .u64 0))
      have HF : Fr [w.heap.size] W1 ((W1.setCell ⟨w.heap.size, 0, none⟩ (.int .i64 c)).setCell ⟨w.heap.size, 1, none⟩ (.int .u64 0)) := ((Fr.refl _ _).setCell (by simp) _).setCell (by simp) _
      refine bodyPost_ret (results_cell_row (P := Tryz.prog) Tryz.results107 _ _ w.heap.size 173 _ (0, 0) _ rfl HY Tryz.underlying173 rfl (by kernel_rfl)) rfl ?_
      exact ⟨rfl, below_of_fr HB.out HF (fun y hy => by simp at hy; omega)⟩
    · have h1 : 64 ≤ x := by omega
      go_enter Tryz.func107, Tryz.ntmps107
      go_upto_region 1 with fail
      generalize w.alloc (.cells #[.int .i64 0, .int .u64 0] 173) = W1 at *
      have c0 := HX.out.at_ 0
      have c1 := HX.out.at_ 1
      have f0 := HX.out.free 0
      have f1 := HX.out.free 1
      go_wp2
      have HY := ((HX.out.put 0 (.int .i64 c)).put 1 (.int .u64 0))
      have HF : Fr [w.heap.size] W1 ((W1.setCell ⟨w.heap.size, 0, none⟩ (.int .i64 c)).setCell ⟨w.heap.size, 1, none⟩ (.int .u64 0)) := ((Fr.refl _ _).setCell (by simp) _).setCell (by simp) _
      refine bodyPost_ret (results_cell_row (P := Tryz.prog) Tryz.results107 _ _ w.heap.size 173 _ (0, 0) _ rfl HY Tryz.underlying173 rfl (by kernel_rfl)) rfl ?_
      exact ⟨rfl, below_of_fr HB.out HF (fun y hy => by simp at hy; omega)⟩
  by_cases hb : b < 0 ∨ 63 < b
  · rw [if_pos hb]
    exact key b hb
  · rw [if_neg hb]
    obtain ⟨k, rfl⟩ : ∃ k : Nat, b = (k : Int) := ⟨b.toNat, by omega⟩
    rw [Int.toNat_natCast]
    have hk : k < 64 := by omega
    have h0 : decide ((k : Int) < 0) = false := by simp
    have h1 : decide ((64 : Int) ≤ (k : Int)) = false := by simp; omega
    go_enter Tryz.func107, Tryz.ntmps107
    go_upto_region 1 with fail
    generalize w.alloc (.cells #[.int .i64 0, .int .u64 0] 173) = W1 at *
    have c0 := HX.out.at_ 0
    have c1 := HX.out.at_ 1
    have f0 := HX.out.free 0
    have f1 := HX.out.free 1
    go_wp2
    have hpw : IntKind.u64.wrap ((2 : Int) ^ k) = ((2 ^ k : Nat) : Int) := by
      have h2 : ((2 : Int) ^ k) = ((2 ^ k : Nat) : Int) := by simp
      have h3 : (2 : Nat) ^ k ≤ 2 ^ 63 := Nat.pow_le_pow_right (by decide) (by omega)
      rw [h2, IntKind.wrap_u64]
      generalize (2 : Nat) ^ k = P at *
      omega
    rw [hpw]
    generalize (2 ^ k : Nat) = P at *
    have HY := ((HX.out.put 0 (.int .i64 c)).put 1 (.int .u64 (P : Int)))
    have HF : Fr [w.heap.size] W1 ((W1.setCell ⟨w.heap.size, 0, none⟩ (.int .i64 c)).setCell ⟨w.heap.size, 1, none⟩ (.int .u64 (P : Int))) := ((Fr.refl _ _).setCell (by simp) _).setCell (by simp) _
    refine bodyPost_ret (results_cell_row (P := Tryz.prog) Tryz.results107 _ _ w.heap.size 173 _ (0, 0) _ rfl HY Tryz.underlying173 rfl (by kernel_rfl)) rfl ?_
    exact ⟨rfl, below_of_fr HB.out HF (fun y hy => by simp at hy; omega)⟩
end Go.Proofs.YtgipddeldddbnaaGreat

namespace Go.Proofs.YtgipddeldddbnaaGreat
open Go Go.RowKit Go.Shelf
set_option linter.unusedSimpArgs false
set_option linter.unusedVariables false

section
variable {w : World} {p m k g cap : Nat} {s : St} {t d : Int} {hd : List Value} {rv ev : Value} {q : Nat} {f : Fra}

set_option maxRecDepth 100000 in
set_option maxHeartbeats 2000000 in
theorem raise_any (hp : PE w p m k g cap s t d hd rv ev) {o : Nat} {ty : TypeId} {cs : Array Value} {c x : Int} (hb : Blk w q ty cs) (n2 : q ≠ m) (n4 : q ≠ g) (h0 : cs[o]? = some (.int .i64 c)) (h1 : cs[o + 1]? = some (.int .u64 x)) :
    Calls Tryz.prog 118 #[.pointer (some ⟨q, o, none⟩), .pointer (some ⟨p, 0, none⟩)] w fun e w' => e = .returned (.tuple #[]) ∧ Mem w' m g cap (s.go 4 c fun y => bits .or .u64 y x) ∧ Fr [m, g] w w' := by
  have P0 := Lib.hid (hp.drewN 1)
  have B0 := Lib.hid (show Blk w.drew q ty cs from hb)
  have HN := Lib.hid (And.intro n2 n4)
  have H0 := Lib.hid (And.intro h0 h1)
  have d20 : w.drew.cell? ⟨p, 20, none⟩ = some (.pointer (some ⟨m, 0, none⟩)) := P0.out.at20
  have d0 : w.drew.cell? ⟨q, o, none⟩ = some (.int .i64 c) := by rw [B0.out.at_]; exact h0
  have d1 : w.drew.cell? ⟨q, o + 1, none⟩ = some (.int .u64 x) := by rw [B0.out.at_]; exact h1
  clear hp hb n2 n4 h0 h1
  go_enter Tryz.func118, Tryz.ntmps118
  go_wp2_with fail
  go_region_held3 (fun w' => w'.cell? ⟨p, 20, none⟩ = some (.pointer (some ⟨m, 0, none⟩)) ∧ w'.cell? ⟨q, o, none⟩ = some (.int .i64 c) ∧ w'.cell? ⟨q, o + 1, none⟩ = some (.int .u64 x)) ((first | exact ⟨a20, a0, a1⟩ | exact ⟨d20, d0, d1⟩ | go_keep))
    ((go_at_call 119
      refine (or_any P0.out.mem _ _).mono ?_
      rintro e w1 ⟨rfl, hm, hf⟩
      have HM := Lib.hid hm
      have HF := Lib.hid hf
      have B1 := Lib.hid (show Blk w1 q ty cs from B0.out.of_same (hf.block q B0.out.lt (by simp [HN.out.1, HN.out.2])))
      have a20 : w1.cell? ⟨p, 20, none⟩ = some (.pointer (some ⟨m, 0, none⟩)) := (P0.out.acc hm hf).at20
      have a0 : w1.cell? ⟨q, o, none⟩ = some (.int .i64 c) := by rw [B1.out.at_]; exact H0.out.1
      have a1 : w1.cell? ⟨q, o + 1, none⟩ = some (.int .u64 x) := by rw [B1.out.at_]; exact H0.out.2
      clear hm hf))
  go_end0
  exact ⟨rfl, HM.out, (Fr.refl _ _).drew.trans HF.out⟩

set_option maxRecDepth 100000 in
set_option maxHeartbeats 2000000 in
theorem setter_any (hp : PE w p m k g cap s t d hd rv ev) (h : LB w q 176 [.int .i64 f.fa, .int .u64 (maskS f.fb)] f 0 0) (hl : f.ln = 1) :
    Calls Tryz.prog 117 #[.pointer (some ⟨q, 0, none⟩), .pointer (some ⟨p, 0, none⟩)] w (LStepped w p m k g cap (setS s f).1 t d hd rv ev q 176 [.int .i64 (setS s f).2.1.fa, .int .u64 (maskS (setS s f).2.1.fb)] (setS s f).2.1 (setS s f).2.2) := by
  have P0 := Lib.hid hp
  have B0 := Lib.hid h
  have F0 := Lib.hid (Fr.refl [m, g, q] w)
  clear hp h
  have hc0 := lline_any B0.out
  rw [hl] at hc0
  have HC0 := Lib.hid hc0
  clear hc0
  go_enter Tryz.func117, Tryz.ntmps117
  go_wp2_with fail
  (with_reducible refine HC0.out.mono ?_)
  rintro e wx ⟨rfl, rfl⟩
  clear HC0
  go_wp2_with fail
  (with_reducible refine (raise_any P0.out B0.out.blk (B0.out.ne P0.out).2.1 (B0.out.ne P0.out).2.2.2 (o := 3) rfl rfl).mono ?_)
  rintro e W1 ⟨rfl, hm, hf⟩
  have P1 := Lib.hid (P0.out.acc hm hf)
  have B1 := Lib.hid (B0.out.acc P0.out hf)
  have F1 := Lib.hid (F0.out.trans (hf.mono (by simp)))
  clear hm hf
  clear P0 B0 F0
  go_wp2_with fail
  (with_reducible refine (lend_any B1.out 0 0).mono ?_)
  rintro e W2 ⟨rfl, hb, hf⟩
  have P2 := Lib.hid (P1.out.lown B1.out hf)
  have B2 := Lib.hid hb
  have F2 := Lib.hid (F1.out.trans (hf.mono (by simp)))
  clear hb hf
  clear P1 B1 F1
  go_wp2
  go_ret
  exact ⟨rfl, P2.out, B2.out, F2.out⟩
set_option maxRecDepth 100000 in
/-- A setter that is done. -/
theorem setter_over {ty : TypeId} {post : List Value} {cd vl : Int} (h : LB w q ty post { f with ln := 0 } cd vl) (v : Value) :
    Calls Tryz.prog 117 #[.pointer (some ⟨q, 0, none⟩), v] w fun e w' => e = .returned (.bool true) ∧ w = w' := by
  have HC := Lib.hid (lline_any h)
  clear h
  go_enter Tryz.func117, Tryz.ntmps117
  go_wp2_with fail
  (with_reducible refine HC.out.mono ?_)
  rintro e wx ⟨rfl, rfl⟩
  go_wp2
  go_ret
  exact ⟨rfl, rfl⟩
end
end Go.Proofs.YtgipddeldddbnaaGreat

namespace Go.Proofs.YtgipddeldddbnaaGreat
open Go Go.RowKit Go.Shelf
set_option linter.unusedSimpArgs false
/-- The frames of Set and Clear at their first line. -/
abbrev fraS (c b : Int) : Fra := { fra1 3 0 0 0 0 c with fb := b }
abbrev fraC (c b t bo r k : Int) : Fra := { fra1 4 t bo r k c with fb := b }
/-- What Set gives. -/
def Seted (c b : Int) (w : World) (e : Ending) (w' : World) : Prop :=
  ∃ q : Nat, e = .returned (.iface 171 (.pointer (some ⟨q, 0, none⟩))) ∧ LB w' q 176 [.int .i64 c, .int .u64 (maskS b)] (fraS c b) 0 0 ∧ w.heap.size ≤ q ∧ Below w.heap.size w w'
set_option maxHeartbeats 2000000 in
theorem bSet_any (c b : Int) (w : World) : Calls Tryz.prog 103 #[.int .i64 c, .int .i64 b] w (Seted c b w) := by
  go_enter Tryz.func103, Tryz.ntmps103
  go_wp2_with fail
  (with_reducible refine (lbegin_any _).mono ?_)
  rintro e w1 ⟨rfl, hb⟩
  have HB := Lib.hid hb
  clear hb
  go_wp2_with fail
  (with_reducible refine (at_any c b _).mono ?_)
  rintro e w2 ⟨rfl, hb⟩
  have HB2 := Lib.hid (HB.out.trans (hb.mono HB.out.size))
  clear hb HB
  go_wp2
  go_ret
  have hs := HB2.out.size
  refine ⟨w2.heap.size, rfl, ⟨Blk.made w2 _ _, by decide, by decide, by decide, by decide⟩, hs, HB2.out.trans ((below_one w2 _).mono hs)⟩
/-- Its methods. -/
theorem meth_step_setter (q : Nat) (w : World) : (method 281 171 (.pointer (some ⟨q, 0, none⟩)) "Step").run Tryz.prog w = .ok (117, .pointer (some ⟨q, 0, none⟩)) w := by kernel_rfl
theorem ahead_step_setter (q : Nat) (w : World) : (nilAhead 281 171 (.pointer (some ⟨q, 0, none⟩)) "Step").run Tryz.prog w = .ok (some false) w := by kernel_rfl
theorem meth_result_setter (q : Nat) (w : World) : (method 281 171 (.pointer (some ⟨q, 0, none⟩)) "Result").run Tryz.prog w = .ok (58, .pointer (some ⟨q, 0, none⟩)) w := by kernel_rfl
theorem ahead_result_setter (q : Nat) (w : World) : (nilAhead 281 171 (.pointer (some ⟨q, 0, none⟩)) "Result").run Tryz.prog w = .ok (some false) w := by kernel_rfl

end Go.Proofs.YtgipddeldddbnaaGreat
