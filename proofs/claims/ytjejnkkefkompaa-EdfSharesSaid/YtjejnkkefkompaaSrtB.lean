/-
  slices.Sort at uint64: the heap, the turning round.
-/
import Derived.Test.YtjejnkkefkompaaSrtA
namespace Go.Proofs.Ytjejnkkefkompaa
open Go Go.RowKit Go.Sort
set_option linter.unusedSimpArgs false
set_option linter.unusedVariables false

theorem sift_end {hi first r : Nat} {d : Array Int} (h : hi ≤ 2 * r + 1) : siftDown ltW hi first r d = d := by rw [siftDown, dif_pos h]
theorem sift_one {hi first r q ch : Nat} {d : Array Int} (hr : 2 * r + 1 = q) (h : q < hi) (hc : (ch = q + 1 ∧ q + 1 < hi ∧ ltW d[first + q]! d[first + q + 1]! = true) ∨ (ch = q ∧ (hi ≤ q + 1 ∨ ltW d[first + q]! d[first + q + 1]! = false))) :
    siftDown ltW hi first r d = if ltW d[first + r]! d[first + ch]! = false then d else siftDown ltW hi first ch (swp d (first + r) (first + ch)) := by
  subst hr
  rw [siftDown, dif_neg (by omega)]
  rcases hc with ⟨rfl, h2, h3⟩ | ⟨rfl, h3⟩
  · rw [if_pos (by rw [h3, decide_eq_true h2]; rfl), dif_pos h2]
    show (if (!ltW d[first + r]! d[first + (2 * r + 2)]!) = true then d else _) = if ltW d[first + r]! d[first + (2 * r + 2)]! = false then d else _
    cases ltW d[first + r]! d[first + (2 * r + 2)]! <;> rfl
  · rw [if_neg (by
      rcases h3 with h3 | h3
      · rw [decide_eq_false (by omega), Bool.false_and]
        decide
      · rw [h3, Bool.and_false]
        decide)]
    cases ltW d[first + r]! d[first + (2 * r + 1)]! <;> rfl
set_option maxRecDepth 100000 in
set_option maxHeartbeats 4000000 in
theorem sift_any {w : World} {g n c lo hi first : Nat} {d : Array Int} (h : RowA w g n c d) (hb : first + hi ≤ n) (hn : n ≤ 100000) (hlo : lo ≤ 100000) :
    Calls Try.prog 39 #[.slice (some ⟨g, 0, none⟩) n c, .int .i64 lo, .int .i64 hi, .int .i64 first] w fun e w' => e = .returned (.tuple #[]) ∧ RowA w' g n c (siftDown ltW hi first lo d) ∧ Fr [g] w w' := by
  have H := Lib.hid h
  have hnI : (n : Int) ≤ 100000 := by omega
  clear h
  go_enter Try.func39, Try.ntmps39
  go_wp2_with fail
  go_loopw [8] (fun v wr => ∃ (r : Nat) (dk : Array Int), v = .int .i64 r ∧ r ≤ 100000 ∧ siftDown ltW hi first r dk = siftDown ltW hi first lo d ∧ RowA wr g n c dk ∧ Fr [g] w wr) (fun v _ => 100001 - (intOf v).toNat)
  case atStart => exact ⟨lo, d, by go_num, hlo, rfl, H.out, Fr.refl _ _⟩
  case round =>
    obtain ⟨r, dk, rfl, hr0, he, hrr, hf⟩ := hrel
    have HE := Lib.hid he
    have HR := Lib.hid hrr
    have HF := Lib.hid hf
    clear he hrr hf H
    obtain ⟨q, hq0⟩ : ∃ q, 2 * r + 1 = q := ⟨_, rfl⟩
    have c21 : 2 * (r : Int) + 1 = (q : Int) := by omega
    have qb : q ≤ 300000 := by omega
    by_cases hlt : hi ≤ q
    · have dl : decide ((hi : Int) ≤ (q : Int)) = true := decide_eq_true (by omega)
      have HG := Lib.hid (sift_end (first := first) (d := dk) (hq0 ▸ hlt : hi ≤ 2 * r + 1))
      go_wp2_with fail
      (first | refine bodyPost_ret (results_none rfl _ _ _) rfl ?_ | go_end0)
      refine ⟨rfl, ?_, HF.out⟩
      rw [← HE.out, HG.out]
      exact HR.out
    · have dl : decide ((hi : Int) ≤ (q : Int)) = false := decide_eq_false (by omega)
      have qlt : q < hi := by omega
      have HQ0 := Lib.hid hq0
      clear hq0
      go_wp2_with fail
      by_cases h2 : q + 1 < hi
      · have d2 : decide ((q : Int) + 1 < (hi : Int)) = true := decide_eq_true (by omega)
        obtain ⟨p1, hp1⟩ : ∃ p1, first + q = p1 := ⟨_, rfl⟩
        have c1 := HR.out.cell (i := p1) (by omega)
        have c2 := HR.out.cell (i := p1 + 1) (by omega)
        have i1 : (first : Int) + (q : Int) = (p1 : Int) := by omega
        have b1 : p1 < n := by omega
        have b2 : p1 + 1 < n := by omega
        have hq := less_any dk[p1]! dk[p1 + 1]!
        obtain ⟨lb, hlb⟩ : ∃ lb, ltW dk[p1]! dk[p1 + 1]! = lb := ⟨_, rfl⟩
        rw [hlb] at hq
        rw [← hp1] at hlb
        have HLB := Lib.hid hlb
        clear hlb
        go_quiet ((go_at_call 34; exact Calls.quiet_of_same (hq _)))
        have HR2 := Lib.hid (HR.out.drewN nq)
        have HF2 := Lib.hid (HF.out.drewN nq)
        clear c1 c2 hq hp1 i1 b1 b2
        generalize wr.drewN nq = W2 at *
        cases lb with
        | true =>
          have HX := Lib.hid (sift_one (hi := hi) (first := first) (r := r) (d := dk) (ch := q + 1) HQ0.out qlt (.inl ⟨rfl, h2, HLB.out⟩))
          clear HLB HQ0
          go_wp2_with fail
          obtain ⟨pr, hpr⟩ : ∃ pr, first + r = pr := ⟨_, rfl⟩
          obtain ⟨pc, hpc⟩ : ∃ pc, first + (q + 1) = pc := ⟨_, rfl⟩
          have HX' := HX.out
          rw [hpr, hpc] at HX'
          have HPR := Lib.hid hpr
          have HPC := Lib.hid hpc
          have c3 := HR2.out.cell (i := pr) (by omega)
          have c4 := HR2.out.cell (i := pc) (by omega)
          have f3 := HR2.out.free pr
          have f4 := HR2.out.free pc
          have i3 : (first : Int) + (r : Int) = (pr : Int) := by omega
          have i4 : (first : Int) + ((q : Int) + 1) = (pc : Int) := by omega
          have b3 : pr < n := by omega
          have b4 : pc < n := by omega
          clear hpr hpc HX
          have hq2 := less_any dk[pr]! dk[pc]!
          obtain ⟨l2, hl2⟩ : ∃ l2, ltW dk[pr]! dk[pc]! = l2 := ⟨_, rfl⟩
          rw [hl2] at hq2 HX'
          have HX2 := Lib.hid HX'
          clear hl2 HX'
          go_quiet ((go_at_call 34; exact Calls.quiet_of_same (hq2 _)))
          have HR3 := Lib.hid (HR2.out.drewN nq)
          have HF3 := Lib.hid (HF2.out.drewN nq)
          clear c3 c4 f3 f4 hq2 HR2 HF2
          generalize W2.drewN nq = W3 at *
          cases l2 with
          | false =>
            go_wp2_with fail
            (first | refine bodyPost_ret (results_none rfl _ _ _) rfl ?_ | go_end0)
            refine ⟨rfl, ?_, HF3.out⟩
            rw [← HE.out, HX2.out]; (first | rw [if_pos rfl] | rw [if_pos trivial])
            exact HR3.out
          | true =>
            have c3 := HR3.out.cell (i := pr) (by omega)
            have c4 := HR3.out.cell (i := pc) (by omega)
            have f3 := HR3.out.free pr
            have f4 := HR3.out.free pc
            go_upto_region 6 with fail
            go_region
            have HR4 := Lib.hid (HR3.out.swp pr pc).drew
            have HF4 := Lib.hid (fr_two HF3.out (List.mem_singleton.2 rfl) pr pc (.int .u64 dk[pc]!) (.int .u64 dk[pr]!)).drew
            clear c3 c4 f3 f4
            generalize ((W3.setCell ⟨g, pr, none⟩ (.int .u64 dk[pc]!)).setCell ⟨g, pc, none⟩ (.int .u64 dk[pr]!)).drew = W4 at *
            go_wp2_with fail
            go_roundw
            case rel =>
              refine ⟨q + 1, swp dk pr pc, by go_num, by omega, ?_, HR4.out, HF4.out⟩
              rw [← HE.out, HX2.out]; (first | rw [if_neg (by decide)] | rw [if_neg not_false])
            case measure => simp [intOf]; omega
        | false =>
          have HX := Lib.hid (sift_one (hi := hi) (first := first) (r := r) (d := dk) (ch := q) HQ0.out qlt (.inr ⟨rfl, .inr HLB.out⟩))
          clear HLB HQ0
          go_wp2_with fail
          obtain ⟨pr, hpr⟩ : ∃ pr, first + r = pr := ⟨_, rfl⟩
          obtain ⟨pc, hpc⟩ : ∃ pc, first + (q) = pc := ⟨_, rfl⟩
          have HX' := HX.out
          rw [hpr, hpc] at HX'
          have HPR := Lib.hid hpr
          have HPC := Lib.hid hpc
          have c3 := HR2.out.cell (i := pr) (by omega)
          have c4 := HR2.out.cell (i := pc) (by omega)
          have f3 := HR2.out.free pr
          have f4 := HR2.out.free pc
          have i3 : (first : Int) + (r : Int) = (pr : Int) := by omega
          have i4 : (first : Int) + ((q : Int)) = (pc : Int) := by omega
          have b3 : pr < n := by omega
          have b4 : pc < n := by omega
          clear hpr hpc HX
          have hq2 := less_any dk[pr]! dk[pc]!
          obtain ⟨l2, hl2⟩ : ∃ l2, ltW dk[pr]! dk[pc]! = l2 := ⟨_, rfl⟩
          rw [hl2] at hq2 HX'
          have HX2 := Lib.hid HX'
          clear hl2 HX'
          go_quiet ((go_at_call 34; exact Calls.quiet_of_same (hq2 _)))
          have HR3 := Lib.hid (HR2.out.drewN nq)
          have HF3 := Lib.hid (HF2.out.drewN nq)
          clear c3 c4 f3 f4 hq2 HR2 HF2
          generalize W2.drewN nq = W3 at *
          cases l2 with
          | false =>
            go_wp2_with fail
            (first | refine bodyPost_ret (results_none rfl _ _ _) rfl ?_ | go_end0)
            refine ⟨rfl, ?_, HF3.out⟩
            rw [← HE.out, HX2.out]; (first | rw [if_pos rfl] | rw [if_pos trivial])
            exact HR3.out
          | true =>
            have c3 := HR3.out.cell (i := pr) (by omega)
            have c4 := HR3.out.cell (i := pc) (by omega)
            have f3 := HR3.out.free pr
            have f4 := HR3.out.free pc
            go_upto_region 6 with fail
            go_region
            have HR4 := Lib.hid (HR3.out.swp pr pc).drew
            have HF4 := Lib.hid (fr_two HF3.out (List.mem_singleton.2 rfl) pr pc (.int .u64 dk[pc]!) (.int .u64 dk[pr]!)).drew
            clear c3 c4 f3 f4
            generalize ((W3.setCell ⟨g, pr, none⟩ (.int .u64 dk[pc]!)).setCell ⟨g, pc, none⟩ (.int .u64 dk[pr]!)).drew = W4 at *
            go_wp2_with fail
            go_roundw
            case rel =>
              refine ⟨q, swp dk pr pc, by go_num, by omega, ?_, HR4.out, HF4.out⟩
              rw [← HE.out, HX2.out]; (first | rw [if_neg (by decide)] | rw [if_neg not_false])
            case measure => simp [intOf]; omega
      · have d2 : decide ((q : Int) + 1 < (hi : Int)) = false := decide_eq_false (by omega)
        have HX := Lib.hid (sift_one (hi := hi) (first := first) (r := r) (d := dk) (ch := q) HQ0.out qlt (.inr ⟨rfl, .inl (by omega)⟩))
        clear HQ0
        go_quiet (fail)
        have HR2 := Lib.hid (HR.out.drewN nq)
        have HF2 := Lib.hid (HF.out.drewN nq)
        generalize wr.drewN nq = W2 at *
        go_wp2_with fail
        obtain ⟨pr, hpr⟩ : ∃ pr, first + r = pr := ⟨_, rfl⟩
        obtain ⟨pc, hpc⟩ : ∃ pc, first + (q) = pc := ⟨_, rfl⟩
        have HX' := HX.out
        rw [hpr, hpc] at HX'
        have HPR := Lib.hid hpr
        have HPC := Lib.hid hpc
        have c3 := HR2.out.cell (i := pr) (by omega)
        have c4 := HR2.out.cell (i := pc) (by omega)
        have f3 := HR2.out.free pr
        have f4 := HR2.out.free pc
        have i3 : (first : Int) + (r : Int) = (pr : Int) := by omega
        have i4 : (first : Int) + ((q : Int)) = (pc : Int) := by omega
        have b3 : pr < n := by omega
        have b4 : pc < n := by omega
        clear hpr hpc HX
        have hq2 := less_any dk[pr]! dk[pc]!
        obtain ⟨l2, hl2⟩ : ∃ l2, ltW dk[pr]! dk[pc]! = l2 := ⟨_, rfl⟩
        rw [hl2] at hq2 HX'
        have HX2 := Lib.hid HX'
        clear hl2 HX'
        go_quiet ((go_at_call 34; exact Calls.quiet_of_same (hq2 _)))
        have HR3 := Lib.hid (HR2.out.drewN nq)
        have HF3 := Lib.hid (HF2.out.drewN nq)
        clear c3 c4 f3 f4 hq2 HR2 HF2
        generalize W2.drewN nq = W3 at *
        cases l2 with
        | false =>
          go_wp2_with fail
          (first | refine bodyPost_ret (results_none rfl _ _ _) rfl ?_ | go_end0)
          refine ⟨rfl, ?_, HF3.out⟩
          rw [← HE.out, HX2.out]; (first | rw [if_pos rfl] | rw [if_pos trivial])
          exact HR3.out
        | true =>
          have c3 := HR3.out.cell (i := pr) (by omega)
          have c4 := HR3.out.cell (i := pc) (by omega)
          have f3 := HR3.out.free pr
          have f4 := HR3.out.free pc
          go_upto_region 6 with fail
          go_region
          have HR4 := Lib.hid (HR3.out.swp pr pc).drew
          have HF4 := Lib.hid (fr_two HF3.out (List.mem_singleton.2 rfl) pr pc (.int .u64 dk[pc]!) (.int .u64 dk[pr]!)).drew
          clear c3 c4 f3 f4
          generalize ((W3.setCell ⟨g, pr, none⟩ (.int .u64 dk[pc]!)).setCell ⟨g, pc, none⟩ (.int .u64 dk[pr]!)).drew = W4 at *
          go_wp2_with fail
          go_roundw
          case rel =>
            refine ⟨q, swp dk pr pc, by go_num, by omega, ?_, HR4.out, HF4.out⟩
            rw [← HE.out, HX2.out]; (first | rw [if_neg (by decide)] | rw [if_neg not_false])
          case measure => simp [intOf]; omega
end Go.Proofs.Ytjejnkkefkompaa
