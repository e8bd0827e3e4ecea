/-
  An == between two structs of ints.
  The reference's Same: are two lists of events equal?
-/
import Derived.Test.YthiiidkkdlmneaaMgAA
import Derived.ChangeKeysEq
import Derived.Test.YthiiidkkdlmneaaMgAT
import Derived.LoopTactic
import Derived.Deep.QuietTactic
import Derived.BigQuiet
import Derived.Lib.Hide
namespace Go.Proofs.Ythiiidkkdlmneaa
open Go Go.RowKit

theorem qeq_int (k : Nat) (x y : Int) (u : World) : (Op.equalIn (k + 1) 3 (.int .i64 x) (.int .i64 y)).run Try.prog u = .ok (x == y) u := by
  simp [Op.equalIn, run_underlying Try.underlying3]
theorem eqFields_ints (k : Nat) (xs ys : List Int) (u : World) : ∀ (fs : List Field) (is : List Nat), fs.map (fun f => (f.name == "_", f.type, f.offset)) = is.map (fun i => (false, 3, i)) → (∀ i ∈ is, i < xs.length ∧ i < ys.length) →
    (Op.eqFields (k + 1) (xs.map (Value.int .i64)).toArray (ys.map (Value.int .i64)).toArray fs).run Try.prog u = .ok (is.all fun i => xs.getD i 0 == ys.getD i 0) u
  | [], [], _, _ => by simp [Op.eqFields]
  | [], _ :: _, h, _ => by simp at h
  | _ :: _, [], h, _ => by simp at h
  | f :: fs, i :: is, h, hl => by
    simp only [List.map_cons, List.cons.injEq, Prod.mk.injEq] at h
    obtain ⟨⟨hn, ht, ho⟩, hr⟩ := h
    have hp : Try.prog.plainKey 3 = true := by kernel_rfl
    obtain ⟨h1, h2⟩ := hl i (by simp)
    have ih := eqFields_ints k xs ys u fs is hr (fun j hj => hl j (by simp [hj]))
    have g : ∀ zs : List Int, i < zs.length → (zs.map (Value.int .i64)).toArray[f.offset]? = some (.int .i64 (zs.getD i 0)) := by
      intro zs hz
      rw [ho]
      simp [hz]
    have hnm : f.name ≠ "_" := by simpa using hn
    have p1 := run_part_plain (P := Try.prog) u hp (g xs h1)
    have p2 := run_part_plain (P := Try.prog) u hp (g ys h2)
    rw [← ht] at p1 p2
    have p3 := qeq_int k (xs.getD i 0) (ys.getD i 0) u
    rw [← ht] at p3
    simp only [Op.eqFields, hnm, ne_eq, not_false_eq_true, if_true, Sem.run_bind, p1, p2, p3, Result.andThen_ok, List.all_cons]
    cases hb : (xs.getD i 0 == ys.getD i 0) with
    | false => simp
    | true => simpa using ih
end Go.Proofs.Ythiiidkkdlmneaa

namespace Go.Proofs.Ythiiidkkdlmneaa
open Go Go.RowKit
set_option linter.unusedSimpArgs false

theorem ev_eq (x y : Ev) (u : World) : (Op.equalIn 10000 139 (.agg (evV x)) (.agg (evV y))).run Try.prog u = .ok (decide (x = y)) u := by
  rw [show (10000 : Nat) = 9999 + 1 from rfl, run_equalIn_struct u 9999 139 _ _ (by kernel_rfl) (by kernel_rfl)]
  have h := eqFields_ints 9998 [x.kd, x.wk, x.tk, x.ot, x.lv] [y.kd, y.wk, y.tk, y.ot, y.lv] u (Try.prog.fieldsOf 139).toList [0, 1, 2, 3, 4] (by kernel_rfl) (by simp)
  simp only [List.map_cons, List.map_nil] at h
  refine h.trans (congrArg (fun b => Result.ok b u) ?_)
  clear h
  rw [Bool.eq_iff_iff, decide_eq_true_iff]
  obtain ⟨x0, x1, x2, x3, x4⟩ := x
  obtain ⟨y0, y1, y2, y3, y4⟩ := y
  simp
theorem ev_ne (x y : Ev) (u : World) : (binOp .neq 139 (.agg (evV x)) (.agg (evV y))).run Try.prog u = .ok (.bool (!decide (x = y))) u := by
  simp only [binOp, Op.equal, Op.maxDepth, Sem.run_bind, Sem.run_pure]
  rw [ev_eq x y u]
  rfl

/-- What Same gives. -/
def SameR (xs ys : List Ev) (w : World) (e : Ending) (w' : World) : Prop := e = .returned (.bool (decide (xs = ys))) ∧ ∃ d, w' = w.drewN d

theorem etake_more {zs ys : List Ev} {j : Nat} {u : Ev} (h1 : zs[j]? = some u) (h2 : ys[j]? = some u) (ht : zs.take j = ys.take j) : zs.take (j + 1) = ys.take (j + 1) := by
  rw [List.take_add_one, List.take_add_one, ht, h1, h2]

set_option maxRecDepth 100000 in
set_option maxHeartbeats 2000000 in
theorem evsame_any {w : World} {a b : Option Addr} {xs ys : List Ev} (h : InE w a xs) (h' : InE w b ys) (c c' : Nat) :
    Calls Try.prog 37 #[.slice a xs.length c, .slice b ys.length c'] w (SameR xs ys w) := by
  have hmax := h.1
  unfold maxLen at hmax
  obtain ⟨n, hn⟩ : ∃ n, xs.length = n := ⟨_, rfl⟩
  obtain ⟨m, hm⟩ : ∃ m, ys.length = m := ⟨_, rfl⟩
  rw [hn, hm]
  rw [hn] at hmax
  have HL := Lib.hid (And.intro hn hm)
  clear hn hm
  by_cases hnm : n = m
  · subst hnm
    have H := Lib.hid h
    have H' := Lib.hid h'
    clear h h'
    go_enter Try.func37, Try.ntmps37
    go_wp2_with fail
    go_loopw [5] (fun i wr => ∃ (j d : Nat), j ≤ n ∧ i = .int .i64 j ∧ wr = w.drewN d ∧ xs.take j = ys.take j) (fun i _ => n - (intOf i).toNat)
    case atStart => exact ⟨0, 0, by omega, rfl, rfl, by simp⟩
    case round =>
      obtain ⟨j, d, hj, rfl, rfl, ht⟩ := hrel
      have HT := Lib.hid ht
      clear ht
      by_cases hlt : j < n
      · obtain ⟨u, hu⟩ : ∃ u, xs[j]? = some u := ⟨_, List.getElem?_eq_getElem (by rw [HL.out.1]; exact hlt)⟩
        obtain ⟨v, hv⟩ : ∃ v, ys[j]? = some v := ⟨_, List.getElem?_eq_getElem (by rw [HL.out.2]; exact hlt)⟩
        obtain ⟨x, rfl, x0, x1, x2, x3, x4⟩ := H.out.at_ hu
        obtain ⟨y, rfl, y0, y1, y2, y3, y4⟩ := H'.out.at_ hv
        have HU := Lib.hid hu
        have HV := Lib.hid hv
        have hq := fun (W : World) => ev_ne u v W
        clear hu hv
        by_cases he : u = v
        · rw [decide_eq_true he] at hq
          have HE := Lib.hid he
          clear he
          go_wp2_with fail
          go_quiet (fail)
          go_wp2_with fail
          go_roundw
          case rel => exact ⟨j + 1, _, by omega, by go_num, rfl, etake_more HU.out (by rw [HE.out]; exact HV.out) HT.out⟩
          case measure => simp [intOf]; omega
        · rw [decide_eq_false he] at hq
          have HE := Lib.hid he
          clear he
          go_wp2_with fail
          go_quiet (fail)
          go_wp2
          go_ret
          refine ⟨congrArg (fun b => Ending.returned (Value.bool b)) (decide_eq_false (fun e => ?_)).symm, _, World.drewN_drewN _ _ _⟩
          have h1 := HU.out
          rw [e, HV.out] at h1
          exact HE.out (Option.some.inj h1).symm
      · obtain rfl : j = n := by omega
        have ht := HT.out
        rw [List.take_of_length_le (by rw [HL.out.1]; exact Nat.le_refl _), List.take_of_length_le (by rw [HL.out.2]; exact Nat.le_refl _)] at ht
        have HT2 := Lib.hid ht
        clear ht
        go_wp2
        go_ret
        exact ⟨congrArg (fun b => Ending.returned (Value.bool b)) (decide_eq_true HT2.out).symm, _, rfl⟩
  · have hd : ((n : Int) == (m : Int)) = false := by simp; omega
    have hne : xs ≠ ys := by
      intro e
      apply hnm
      rw [← HL.out.1, ← HL.out.2, e]
    have HNE := Lib.hid hne
    clear h h' hne
    go_enter Try.func37, Try.ntmps37
    go_wp2
    go_ret
    exact ⟨congrArg (fun b => Ending.returned (Value.bool b)) (decide_eq_false HNE.out).symm, 0, rfl⟩
end Go.Proofs.Ythiiidkkdlmneaa
