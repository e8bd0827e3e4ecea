/-
  Stage 11, plain mathematics: sums of the beginning of a list, what is counted of the beginning of a history. No function is named.
  The walk of the statement HistoryConserves: it returns true.
-/
import Derived.Test.YtllllbepnnpeeaaMgBE
import Derived.Test.YtllllbepnnpeeaaMgBS
import Derived.LoopTactic
import Derived.OwnWalk
import Derived.Deep.Cut
import Derived.Deep.CutRange
namespace Go.Proofs.Ytllllbepnnpeeaa
open Go Go.RowKit
set_option linter.unusedSimpArgs false
set_option linter.unusedVariables false

theorem sumN_take (l : List Nat) (j : Nat) (hj : j < l.length) : sumN (l.take (j + 1)) = sumN (l.take j) + l.getD j 0 := by
  induction l generalizing j with
  | nil => simp at hj
  | cons a l ih =>
    cases j with
    | zero =>
      show a + sumN (l.take 0) = 0 + a
      rw [List.take_zero]
      show a + 0 = 0 + a
      omega
    | succ j =>
      have := ih j (by simpa using hj)
      show a + sumN (l.take (j + 1)) = a + sumN (l.take j) + l.getD j 0
      omega
theorem sumN_take_le (l : List Nat) (j : Nat) : sumN (l.take j) ≤ sumN l := by
  induction l generalizing j with
  | nil => simp
  | cons a l ih =>
    cases j with
    | zero => exact Nat.zero_le _
    | succ j =>
      have := ih j
      show a + sumN (l.take j) ≤ a + sumN l
      omega
theorem count_next {r : List OpR} {k : Nat} {q : OpR} (p : OpR → Bool) (hk : k < r.length) (hq : r.getD k .zero = q) : (r.take (k + 1)).countP p = (r.take k).countP p + if p q = true then 1 else 0 := by
  have e : r.take (k + 1) = r.take k ++ [q] := by
    rw [List.take_add_one, List.getElem?_eq_getElem hk]
    rw [List.getD_eq_getElem?_getD, List.getElem?_eq_getElem hk] at hq
    have hq2 : r[k] = q := hq
    rw [hq2]
    rfl
  rw [e, List.countP_append, List.countP_cons, List.countP_nil]
  simp
end Go.Proofs.Ytllllbepnnpeeaa

namespace Go.Proofs.Ytllllbepnnpeeaa
open Go Go.RowKit Go.Shelf
set_option linter.unusedSimpArgs false
set_option linter.unusedVariables false

set_option maxRecDepth 100000 in
set_option maxHeartbeats 16000000 in
theorem conserves_law {w : World} {ra pa : Option Addr} {rn pn : Nat} {rz pz : List Int} (rc pc : Nat) (ca : Int) (hr : InInts w ra rn rz ∧ ∀ x, x ∈ rz → -9223372036854775808 ≤ x ∧ x ≤ 9223372036854775807) (hp : InInts w pa pn pz ∧ ∀ x, x ∈ pz → -9223372036854775808 ≤ x ∧ x ≤ 9223372036854775807) :
    Calls Try.prog 5 #[.int .i64 ca, .slice ra rn rc, .slice pa pn pc] w fun e w' => e = .returned (.bool true) ∧ Below w.heap.size w w' := by
  have hmr := hr.1.2.1
  have hmp := hp.1.2.1
  unfold maxLen at hmr hmp
  have HR := Lib.hid hr
  have HPK := Lib.hid hp
  clear hr hp
  obtain ⟨sb, hsb⟩ : ∃ sb, (decide ((rn : Int) ≤ 400) && decide ((pn : Int) ≤ 400)) = sb := ⟨_, rfl⟩
  have HSB := Lib.hid hsb
  clear hsb
  have hX := Blk.made w 24 #[.slice ra rn rc, .slice pa pn pc]
  have HS := Lib.hid (short2_any hX (by omega) (by omega))
  rw [HSB.out] at HS
  have B1 := Lib.hid (below_one w (.cells #[.slice ra rn rc, .slice pa pn pc] 24))
  clear hX
  go_enter Try.func5, Try.ntmps5
  go_wp2_with fail
  (with_reducible refine HS.out.mono ?_)
  rintro e w1 ⟨rfl, rfl⟩
  generalize w.alloc (.cells #[.slice ra rn rc, .slice pa pn pc] 24) = W1 at *
  clear HS
  cases sb with
  | false =>
    go_wp2
    go_ret
    exact ⟨rfl, B1.out⟩
  | true =>
  have HLN := Lib.hid (show rn ≤ 400 ∧ pn ≤ 400 by
    have := HSB.out
    simp only [Bool.and_eq_true, decide_eq_true_eq] at this
    omega)
  clear HSB
  go_wp2_with fail
  have I0 := Lib.hid (ints_lone W1 ca)
  have hb0 := below_one W1 (.cells #[.int .i64 ca] 3)
  (with_reducible refine (keepnum0 I0.out 1 8 (by omega) (by omega)).mono ?_)
  rintro e u0 ⟨y, hy, rfl, nd0, rfl⟩
  have B2 := Lib.hid (B1.out.trans ((hb0.trans ((below_drewN (W1.alloc (.cells #[.int .i64 ca] 3)) nd0).mono hb0.size)).mono B1.out.size))
  clear I0 hb0 B1
  generalize (W1.alloc (.cells #[.int .i64 ca] 3)).drewN nd0 = W2 at *
  obtain ⟨C, hC⟩ : ∃ C, 1 + y = C := ⟨_, rfl⟩
  have hCy : (1 : Int) + (y : Int) = (C : Int) := by omega
  have hCb : 1 ≤ C ∧ C ≤ 8 := by omega
  have HCB := Lib.hid hCb
  clear hC hCb
  have hpl0 := plan_any (n := 60) (c := rc) (HR.out.1.below B2.out) HLN.out.1 (by omega)
  rw [show ((60 : Nat) : Int) = 60 from rfl] at hpl0
  have HPL := Lib.hid hpl0
  clear hpl0
  go_wp2_with fail
  (with_reducible refine HPL.out.mono ?_)
  rintro e w3 ⟨ob, K, P, V, cnt, rfl, hpo, hok, hK1, hK2, hcnt⟩
  have B3 := Lib.hid (B2.out.trans (hpo.b.mono B2.out.size))
  have PO3 := Lib.hid hpo
  have PK := Lib.hid (And.intro hok (And.intro (And.intro hK1 hK2) hcnt))
  clear hpo hok hK1 hK2 hcnt HPL
  have HPC := Lib.hid (show sumN (P.map List.length) = cnt from PK.out.1.sum)
  have HK4 := Lib.hid (show K ≤ 4 ∧ cnt ≤ 60 from ⟨PK.out.2.1.2, PK.out.2.2⟩)
  go_wp2_with fail
  go_loopw [9, 8] (fun i nv wr => ∃ (j S : Nat), j ≤ K ∧ i = .int .i64 j ∧ nv = .int .i64 S ∧ Hid (S = sumN ((P.map List.length).take j)) ∧ S ≤ 60 ∧ Hid (PO W2 wr ob K P V)) (fun i _ _ => K - (intOf i).toNat)
  case atStart => exact ⟨0, 0, by omega, rfl, rfl, Lib.hid rfl, by omega, PO3⟩
  case round =>
    clear PO3 B3
    obtain ⟨j, S, hj, rfl, rfl, HS, hS, PO3⟩ := hrel
    by_cases hlt : j < K
    case pos =>
      have hlt2 : (j : Int) < (K : Int) := by omega
      have hj0 : (0 : Int) ≤ (j : Int) := by omega
      obtain ⟨va, vc, hva, hvc⟩ := (PO3.out.own j hlt).form
      obtain ⟨N, hN⟩ : ∃ N, ((P.getD j []).map actL).length = N := ⟨_, rfl⟩
      rw [hN] at hva hvc
      have cs := PO3.out.cell hlt
      rw [hva] at cs
      have hNl : (P.map List.length).getD j 0 = N := by
        rw [getD_map List.length P j [] 0 rfl, ← hN, List.length_map]
      have hs1 := sumN_take (P.map List.length) j (by rw [List.length_map, PO3.out.lp]; exact hlt)
      have hs2 := sumN_take_le (P.map List.length) (j + 1)
      rw [hNl, ← HS.out] at hs1
      rw [HPC.out, hs1] at hs2
      have HS1 := Lib.hid hs1
      have hSN : S + N ≤ 60 := by have := HK4.out; omega
      have hj4 : j ≤ 4 := by have := HK4.out; omega
      clear hva hvc hN hNl hs1 hs2
      go_wp2_with fail
      go_roundw
      case rel => exact ⟨j + 1, S + N, by omega, by go_num, by go_num, Lib.hid HS1.out.symm, hSN, PO3⟩
      case measure => simp [intOf]; omega
    obtain rfl : j = K := by omega
    have hSc : S = cnt := by
      rw [HS.out, List.take_of_length_le (by rw [List.length_map, PO3.out.lp]; omega)]
      exact HPC.out
    subst hSc
    clear HS hS hj hlt
    have hpr : ∀ i, i < pn → -9223372036854775808 ≤ pz.getD i 0 ∧ pz.getD i 0 ≤ 9223372036854775807 := fun i hi => by
      have hl := HPK.out.1.1
      rw [List.getD_eq_getElem?_getD, List.getElem?_eq_getElem (by omega)]
      exact HPK.out.2 _ (List.getElem_mem _)
    have HG := Lib.hid (fun d => game_any (C := C) (z := (C : Int)) (d := d) PO3.out PK.out.1 PK.out.2.1 (by have := PK.out.2.2; omega) rfl HCB.out.1 (by have := HCB.out.2; omega) ((HPK.out.1.below B2.out).below PO3.out.b) HLN.out.2 hpr)
    clear hpr
    go_wp2_with fail
    (with_reducible refine (HG.out _).mono ?_)
    rintro e w4 ⟨r, a, c, rfl, hin, hg, hb4⟩
    have B4 := Lib.hid ((B2.out.trans (PO3.out.b.mono B2.out.size)).trans (hb4.mono (Nat.le_trans B2.out.size PO3.out.b.size)))
    have IN4 := Lib.hid hin
    have GG := Lib.hid hg
    clear hin hg HG
    clear PO3 hb4
    go_wp2_with fail
    (with_reducible refine (awake11_any _).mono ?_)
    rintro e w5 ⟨rfl, hb5⟩
    have B5 := Lib.hid (B4.out.trans (hb5.mono B4.out.size))
    have IN5 := Lib.hid (IN4.out.below hb5)
    clear hb5 B4 IN4
    have HC := Lib.hid (show S ≤ 60 from HK4.out.2)
    have hS60 : S ≤ 60 := HC.out
    go_wp2_with fail
    go_loopw [11] (fun i wr => ∃ v : Int, -3 ≤ v ∧ v ≤ 4 ∧ i = .int .i64 v ∧ Below w.heap.size w wr ∧ InOp wr a r) (fun i _ => (4 - intOf i).toNat)
    case atStart => exact ⟨-3, by omega, by omega, rfl, B5.out, IN5.out⟩
    case round =>
      clear B5 IN5
      obtain ⟨v, hv1, hv2, rfl, hb, hin⟩ := hrel
      have BR := Lib.hid hb
      have IR := Lib.hid hin
      clear hb hin
      by_cases hv4 : v < 4
      case neg =>
        obtain rfl : v = 4 := by omega
        go_wp2
        go_ret
        exact ⟨rfl, BR.out⟩
      go_wp2_with fail
      go_loopw [14, 13, 12] (fun i ov iv wr2 => ∃ k no ni : Nat, k ≤ S ∧ i = .int .i64 k ∧ ov = .int .i64 no ∧ iv = .int .i64 ni ∧ no ≤ k ∧ ni ≤ k ∧ Hid (no = (r.take k).countP (isOut v) ∧ ni = (r.take k).countP (isIn v)) ∧ Hid (Below w.heap.size w wr2 ∧ InOp wr2 a r)) (fun i _ _ _ => S - (intOf i).toNat)
      case atStart => exact ⟨0, 0, 0, by omega, rfl, rfl, rfl, by omega, by omega, Lib.hid ⟨rfl, rfl⟩, Lib.hid ⟨BR.out, IR.out⟩⟩
      case round =>
        clear BR IR
        obtain ⟨k, no, ni, hk, rfl, rfl, rfl, hno, hni, HCT, HBI⟩ := hrel
        by_cases hlk : k < S
        case neg =>
          obtain rfl : k = S := by omega
          have h1 := HCT.out
          rw [List.take_of_length_le (by rw [GG.out.len]; exact Nat.le_refl _)] at h1
          have h2 := GG.out.ct v
          rw [← h1.1, ← h1.2] at h2
          have hg1 : decide ((ni : Int) < (no : Int)) = false := decide_eq_false (by omega)
          have hg2 : decide ((k : Int) < (ni : Int)) = false := decide_eq_false (by omega)
          have hg3 : decide (ni < no) = false := decide_eq_false (by omega)
          have hg4 : decide (k < ni) = false := decide_eq_false (by omega)
          have HV := Lib.hid (And.intro hv1 hv4)
          clear h1 h2
          go_wp2_with fail
          go_roundw
          case rel => exact ⟨v + 1, by omega, by omega, by go_num, HBI.out.1, HBI.out.2⟩
          case measure => simp only [intOf]; omega
        have hlk2 : (k : Int) < (S : Int) := by omega
        have hk0 : (0 : Int) ≤ (k : Int) := by omega
        obtain ⟨xc, hy, hyb, q0, _, _, _, q4, q5⟩ := InOp.op HBI.out.2 (i := k) (by rw [GG.out.len]; exact hlk)
        subst hy
        obtain ⟨q, hq⟩ : ∃ q, r.getD k .zero = q := ⟨_, rfl⟩
        have n1 := count_next (isOut v) (by rw [GG.out.len]; exact hlk) hq
        have n2 := count_next (isIn v) (by rw [GG.out.len]; exact hlk) hq
        rw [← HCT.out.1] at n1
        rw [← HCT.out.2] at n2
        rw [hq] at q0 q4 q5
        obtain ⟨qk, qm, qa, qb, qc, qv⟩ := q
        replace q0 : wr.cell? (xc.add (k * 6)) = some (.int .i64 qk) := q0
        replace q4 : wr.cell? ⟨(xc.add (k * 6)).block, (xc.add (k * 6)).off + 4, none⟩ = some (.int .i64 qc) := q4
        replace q5 : wr.cell? ⟨(xc.add (k * 6)).block, (xc.add (k * 6)).off + 5, none⟩ = some (.int .i64 qv) := q5
        replace n1 : (r.take (k + 1)).countP (isOut v) = no + if (qk != 0 && qc == 1 && qv == v) = true then 1 else 0 := n1
        replace n2 : (r.take (k + 1)).countP (isIn v) = ni + if (qk == 0 && qc == 0 && qv == v) = true then 1 else 0 := n2
        have N1 := Lib.hid n1
        have N2 := Lib.hid n2
        clear n1 n2 hyb hq
        by_cases hk2 : qk = 0
        case pos =>
          subst hk2
          by_cases hc : qc = 0
          case neg =>
            have hc2 : (qc == 0) = false := by simp [hc]
            have HH := Lib.hid (And.intro (rfl : (0 : Int) = 0) hc)
            clear hc
            go_wp2_with fail
            go_roundw
            case rel => exact ⟨k + 1, no, ni, by omega, by go_num, by go_num, by go_num, by omega, by omega, Lib.hid ⟨by rw [N1.out]; simp [HH.out], by rw [N2.out]; simp [HH.out]⟩, HBI⟩
            case measure => simp [intOf]; omega
          subst hc
          by_cases hv : qv = v
          case neg =>
            have hv3 : (qv == v) = false := by simp [hv]
            have HH := Lib.hid (And.intro (rfl : (0 : Int) = 0) hv)
            clear hv
            go_wp2_with fail
            go_roundw
            case rel => exact ⟨k + 1, no, ni, by omega, by go_num, by go_num, by go_num, by omega, by omega, Lib.hid ⟨by rw [N1.out]; simp [HH.out], by rw [N2.out]; simp [HH.out]⟩, HBI⟩
            case measure => simp [intOf]; omega
          have hv3 : (qv == v) = true := by simp [hv]
          have HH := Lib.hid (And.intro (rfl : (0 : Int) = 0) hv)
          clear hv
          go_wp2_with fail
          go_roundw
          case rel => exact ⟨k + 1, no, ni + 1, by omega, by go_num, by go_num, by go_num, by omega, by omega, Lib.hid ⟨by rw [N1.out]; simp [HH.out], by rw [N2.out]; simp [HH.out]⟩, HBI⟩
          case measure => simp [intOf]; omega
        have hk3 : (qk == 0) = false := by simp [hk2]
        by_cases hc : qc = 1
        case neg =>
          have hc2 : (qc == 1) = false := by simp [hc]
          have HH := Lib.hid (And.intro hk2 hc)
          clear hc
          go_wp2_with fail
          go_roundw
          case rel => exact ⟨k + 1, no, ni, by omega, by go_num, by go_num, by go_num, by omega, by omega, Lib.hid ⟨by rw [N1.out]; simp [HH.out], by rw [N2.out]; simp [HH.out]⟩, HBI⟩
          case measure => simp [intOf]; omega
        subst hc
        by_cases hv : qv = v
        case neg =>
          have hv3 : (qv == v) = false := by simp [hv]
          have HH := Lib.hid (And.intro hk2 hv)
          clear hv
          go_wp2_with fail
          go_roundw
          case rel => exact ⟨k + 1, no, ni, by omega, by go_num, by go_num, by go_num, by omega, by omega, Lib.hid ⟨by rw [N1.out]; simp [HH.out], by rw [N2.out]; simp [HH.out]⟩, HBI⟩
          case measure => simp [intOf]; omega
        have hv3 : (qv == v) = true := by simp [hv]
        have HH := Lib.hid (And.intro hk2 hv)
        clear hv
        go_wp2_with fail
        go_roundw
        case rel => exact ⟨k + 1, no + 1, ni, by omega, by go_num, by go_num, by go_num, by omega, by omega, Lib.hid ⟨by rw [N1.out]; simp [HH.out], by rw [N2.out]; simp [HH.out]⟩, HBI⟩
        case measure => simp [intOf]; omega
end Go.Proofs.Ytllllbepnnpeeaa
