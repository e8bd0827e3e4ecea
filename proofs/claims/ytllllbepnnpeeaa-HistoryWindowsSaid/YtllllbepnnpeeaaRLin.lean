/-
  The reference's Linear.
-/
import Derived.Test.YtllllbepnnpeeaaRsr
import Derived.Test.YtllllbepnnpeeaaLinR
import Derived.Test.YtllllbepnnpeeaaMgBR
namespace Go.Proofs.Ytllllbepnnpeeaa
open Go Go.RowKit
set_option linter.unusedSimpArgs false
set_option linter.unusedVariables false

theorem info_boolR : (Try.prog.info? 4).map (fun i => (i.zero, i.size, i.bytes)) = some (some (.bool false), 1, 1) := by kernel_rfl
theorem made_dcells (N : Nat) : madeCells #[Value.bool false] N = dcells (List.replicate N false) := by
  refine Array.ext (by simp [madeCells]) (fun i h1 h2 => ?_)
  simp [madeCells, Nat.mod_one]
set_option maxRecDepth 100000 in
set_option maxHeartbeats 8000000 in
theorem rlinear_any {w : World} {a : Option Addr} {N c : Nat} {ops : List OpR} (cap : Int) (h : InOp w a ops) (hN : ops.length = N) :
    Calls Try.prog 12 #[.slice a N c, .int .i64 cap] w (LinD cap ops w) := by
  have hml : N ≤ maxLen := by rw [← hN]; exact InOp.len h
  unfold maxLen at hml
  have HO := Lib.hid (And.intro h hN)
  clear h
  by_cases h12 : 12 < N
  · have hR : ¬ LinG cap ops := fun k => by have := k.1; omega
    have HR := Lib.hid hR
    clear hR
    have h12b : (12 : Int) < (N : Int) := by omega
    go_enter Try.func12, Try.ntmps12
    go_wp2
    go_ret
    exact ⟨false, rfl, ⟨fun e => (by cases e), fun k => absurd k HR.out⟩, Below.refl _ _⟩
  have h12b : decide ((12 : Int) < (N : Int)) = false := decide_eq_false (by omega)
  have H12 := Lib.hid (show N ≤ 12 by omega)
  clear h12 hN
  go_enter Try.func12, Try.ntmps12
  go_wp2_with fail
  go_loopw [5] (fun i wr => LiR w ops i wr) (fun i _ => N - (intOf i).toNat)
  case atStart => exact ⟨0, by omega, rfl, fun i hi => by omega, Below.refl _ _⟩
  case round =>
    obtain ⟨j, hj, rfl, hwf, hbw⟩ := hrel
    rw [HO.out.2] at hj
    have F := Lib.hid (And.intro hwf hbw)
    clear hwf hbw
    by_cases hlt : j < N
    case neg =>
      obtain rfl : j = N := by omega
      have hmk := fun (W : World) => run_make_row' (P := Try.prog) 93 4 (.bool false) 1 Try.underlying93 info_boolR rfl .i64 .i64 j (by have := H12.out; omega) (by have := H12.out; omega) W
      have hall := Lib.hid (InOp.wf HO.out.2 F.out.1)
      go_wp2_with fail
      have HU := Lib.hid (show Blk (wr.alloc (.cells (madeCells #[.bool false] j) 4)) wr.heap.size 4 (dcells (List.replicate j false)) from made_dcells j ▸ Blk.made wr 4 (madeCells #[.bool false] j))
      have HB := Lib.hid (F.out.2.alloc F.out.2.size (.cells (madeCells #[.bool false] j) 4))
      have HI := Lib.hid ((HO.out.1.below F.out.2).below (below_one wr (.cells (madeCells #[.bool false] j) 4)))
      have HNE := Lib.hid (show ∀ x, a = some x → 0 < j → x.block ≠ wr.heap.size from fun x hx h0 => by
        obtain ⟨y, hy, hyb, _⟩ := (HO.out.1.below F.out.2).2.2 0 (by rw [List.length_map, HO.out.2]; exact h0)
        rw [hx] at hy
        cases hy
        omega)
      have HLB := Lib.hid (show w.heap.size ≤ wr.heap.size from F.out.2.size)
      clear F hlt hj
      generalize wr.alloc (.cells (madeCells #[.bool false] j) 4) = W2 at *
      generalize wr.heap.size = ub at *
      clear hmk
      have HV := Lib.hid (show InV W2 ub (.slice none 0 0) [] from ⟨none, 0, rfl, Nat.le_refl _, ⟨rfl, by simp, fun i hi => absurd hi (by simp)⟩, by simp, fun x hx => (by cases hx), fun _ => rfl⟩)
      have HKL := Lib.hid (show (undI ops (List.replicate j false)).length ≤ 12 from by
        have h1 := H12.out
        rw [undI_none, List.length_range, HO.out.2]
        exact h1)
      have HS := Lib.hid (rsearch_any (oc := c) cap HO.out.2 H12.out (fun o ho => (hall.out o ho).2.2.2) HNE.out _ rfl HI.out (List.length_replicate ..) HU.out HV.out (by have := HKL.out; simp; omega))
      (with_reducible refine HS.out.mono ?_)
      rintro e W3 ⟨b, rfl, hiff, _, hf⟩
      have HR := Lib.hid (show (b = true ↔ LinG cap ops) ∧ Below w.heap.size w W3 from by
        rw [und_none] at hiff
        refine ⟨⟨fun e => ⟨by rw [HO.out.2]; exact H12.out, hall.out, hiff.1 e⟩, fun h => hiff.2 h.2.2⟩, below_of_fr HB.out hf (fun y hy => ?_)⟩
        simp only [List.mem_cons, List.not_mem_nil, or_false] at hy
        rw [hy]
        exact HLB.out)
      clear hiff hf
      go_wp2_with fail
      go_ret
      exact ⟨b, rfl, HR.out.1, HR.out.2⟩
    have hlt2 : (j : Int) < (N : Int) := by omega
    have hj0 : (0 : Int) ≤ (j : Int) := by omega
    obtain ⟨x, rfl, hxb, e0, e1, e2, e3, e4, e5⟩ := InOp.op (HO.out.1.below F.out.2) (i := j) (by rw [HO.out.2]; exact hlt)
    obtain ⟨o, hoj⟩ : ∃ o, ops.getD j .zero = o := ⟨_, rfl⟩
    rw [hoj] at e0 e1 e2 e3 e4 e5
    have HJ := Lib.hid hoj
    have HMEM := Lib.hid (show o ∈ ops from by
      rw [← hoj, List.getD_eq_getElem?_getD, List.getElem?_eq_getElem (by rw [HO.out.2]; exact hlt)]
      exact List.getElem_mem _)
    clear hoj
    go_wp2_with fail
    (with_reducible refine (rwf_any o _).mono ?_)
    rintro e W6 ⟨rfl, hb6⟩
    have HB6 := Lib.hid (F.out.2.trans (hb6.mono F.out.2.size))
    clear hb6
    obtain ⟨bw, hbw⟩ : ∃ bw, decide (WfO o) = bw := ⟨_, rfl⟩
    rw [hbw]
    have HBW := Lib.hid hbw
    clear hbw
    cases bw with
    | true =>
      have hnx := Lib.hid (show ∀ i, i < j + 1 → WfO (ops.getD i .zero) from fun i hi => by
        by_cases e : i = j
        · rw [e, HJ.out]; exact of_decide_eq_true HBW.out
        · exact F.out.1 i (by omega))
      go_wp2_with fail
      go_roundw
      case rel => exact ⟨j + 1, by rw [HO.out.2]; omega, by go_num, hnx.out, HB6.out⟩
      case measure => simp [intOf]; omega
    | false =>
      have HR := Lib.hid (show ¬ LinG cap ops from fun k => of_decide_eq_false HBW.out (k.2.1 _ HMEM.out))
      go_wp2_with fail
      go_ret
      exact ⟨false, rfl, ⟨fun e => (by cases e), fun k => absurd k HR.out⟩, HB6.out⟩
end Go.Proofs.Ytllllbepnnpeeaa
