/-
  The walk of the statement HistoryAborts: it returns true.
-/
import Derived.Test.YtllllbepnnpeeaaMgBS
import Derived.LoopTactic
import Derived.OwnWalk
import Derived.Deep.Cut
import Derived.Deep.CutRange
namespace Go.Proofs.Ytllllbepnnpeeaa
open Go Go.RowKit Go.Shelf
set_option linter.unusedSimpArgs false
set_option linter.unusedVariables false

set_option maxRecDepth 100000 in
set_option maxHeartbeats 16000000 in
theorem aborts_law {w : World} {ra pa : Option Addr} {rn pn : Nat} {rz pz : List Int} (rc pc : Nat) (ca : Int) (hr : InInts w ra rn rz ∧ ∀ x, x ∈ rz → -9223372036854775808 ≤ x ∧ x ≤ 9223372036854775807) (hp : InInts w pa pn pz ∧ ∀ x, x ∈ pz → -9223372036854775808 ≤ x ∧ x ≤ 9223372036854775807) :
    Calls Try.prog 6 #[.int .i64 ca, .slice ra rn rc, .slice pa pn pc] w fun e w' => e = .returned (.bool true) ∧ Below w.heap.size w w' := by
  have hmr := hr.1.2.1
  have hmp := hp.1.2.1
  unfold maxLen at hmr hmp
  have HR := Lib.hid hr
  have HPK := Lib.hid hp
  clear hr hp
  obtain ⟨sb, hsb⟩ : ∃ sb, (decide ((rn : Int) ≤ 400) && decide ((pn : Int) ≤ 400)) = sb := ⟨_, rfl⟩
  have HSB := Lib.hid hsb
  clear hsb
  have hX := Blk.made w 24 #[.slice ra rn rc, .slice pa pn pc]
  have HS := Lib.hid (short2_any hX (by omega) (by omega))
  rw [HSB.out] at HS
  have B1 := Lib.hid (below_one w (.cells #[.slice ra rn rc, .slice pa pn pc] 24))
  clear hX
  go_enter Try.func6, Try.ntmps6
  go_wp2_with fail
  (with_reducible refine HS.out.mono ?_)
  rintro e w1 ⟨rfl, rfl⟩
  generalize w.alloc (.cells #[.slice ra rn rc, .slice pa pn pc] 24) = W1 at *
  clear HS
  cases sb with
  | false =>
    go_wp2
    go_ret
    exact ⟨rfl, B1.out⟩
  | true =>
  have HLN := Lib.hid (show rn ≤ 400 ∧ pn ≤ 400 by
    have := HSB.out
    simp only [Bool.and_eq_true, decide_eq_true_eq] at this
    omega)
  clear HSB
  go_wp2_with fail
  have I0 := Lib.hid (ints_lone W1 ca)
  have hb0 := below_one W1 (.cells #[.int .i64 ca] 3)
  (with_reducible refine (keepnum0 I0.out 1 6 (by omega) (by omega)).mono ?_)
  rintro e u0 ⟨y, hy, rfl, nd0, rfl⟩
  have B2 := Lib.hid (B1.out.trans ((hb0.trans ((below_drewN (W1.alloc (.cells #[.int .i64 ca] 3)) nd0).mono hb0.size)).mono B1.out.size))
  clear I0 hb0 B1
  generalize (W1.alloc (.cells #[.int .i64 ca] 3)).drewN nd0 = W2 at *
  obtain ⟨C, hC⟩ : ∃ C, 1 + y = C := ⟨_, rfl⟩
  have hCy : (1 : Int) + (y : Int) = (C : Int) := by omega
  have hCb : 1 ≤ C ∧ C ≤ 8 := by omega
  have HCB := Lib.hid hCb
  clear hC hCb
  have hpl0 := plan_any (n := 40) (c := rc) (HR.out.1.below B2.out) HLN.out.1 (by omega)
  rw [show ((40 : Nat) : Int) = 40 from rfl] at hpl0
  have HPL := Lib.hid hpl0
  clear hpl0
  go_wp2_with fail
  (with_reducible refine HPL.out.mono ?_)
  rintro e w3 ⟨ob, K, P, V, cnt, rfl, hpo, hok, hK1, hK2, hcnt⟩
  have B3 := Lib.hid (B2.out.trans (hpo.b.mono B2.out.size))
  have PO3 := Lib.hid hpo
  have PK := Lib.hid (And.intro hok (And.intro (And.intro hK1 hK2) hcnt))
  clear hpo hok hK1 hK2 hcnt HPL
  have hpr : ∀ i, i < pn → -9223372036854775808 ≤ pz.getD i 0 ∧ pz.getD i 0 ≤ 9223372036854775807 := fun i hi => by
    have hl := HPK.out.1.1
    rw [List.getD_eq_getElem?_getD, List.getElem?_eq_getElem (by omega)]
    exact HPK.out.2 _ (List.getElem_mem _)
  have HG := Lib.hid (fun d => game_any (C := C) (z := (C : Int)) (d := d) PO3.out PK.out.1 PK.out.2.1 (by have := PK.out.2.2; omega) rfl HCB.out.1 (by have := HCB.out.2; omega) ((HPK.out.1.below B2.out).below PO3.out.b) HLN.out.2 hpr)
  clear hpr
  go_wp2_with fail
  (with_reducible refine (HG.out _).mono ?_)
  rintro e w4 ⟨r, a, c, rfl, hin, hg, hb4⟩
  have B4 := Lib.hid (B3.out.trans (hb4.mono B3.out.size))
  have IN4 := Lib.hid hin
  have GG := Lib.hid hg
  clear hin hg HG
  clear PO3 hb4 B3
  go_wp2_with fail
  (with_reducible refine (awake11_any _).mono ?_)
  rintro e w5 ⟨rfl, hb5⟩
  have B5 := Lib.hid (B4.out.trans (hb5.mono B4.out.size))
  have IN5 := Lib.hid (IN4.out.below hb5)
  clear hb5 B4 IN4
  have HC := Lib.hid (show cnt ≤ 40 from PK.out.2.2)
  go_wp2_with fail
  go_loopw [9] (fun i wr => ∃ j : Nat, j ≤ cnt ∧ i = .int .i64 j ∧ Below w.heap.size w wr ∧ InOp wr a r) (fun i _ => cnt - (intOf i).toNat)
  case atStart => exact ⟨0, by omega, rfl, B5.out, IN5.out⟩
  case round =>
    clear B5 IN5
    obtain ⟨j, hj, rfl, hb, hin⟩ := hrel
    have BR := Lib.hid hb
    have IR := Lib.hid hin
    clear hb hin
    by_cases hlt : j < cnt
    case neg =>
      obtain rfl : j = cnt := by omega
      go_wp2
      go_ret
      exact ⟨rfl, BR.out⟩
    have hlt2 : (j : Int) < (cnt : Int) := by omega
    have hj0 : (0 : Int) ≤ (j : Int) := by omega
    have hj4 : j ≤ 40 := by have := HC.out; omega
    obtain ⟨xc, hxc, hxbc, c0, c1, c2, c3, c4, c5⟩ := InOp.op IR.out (i := j) (by rw [GG.out.len]; exact hlt)
    obtain ⟨o, ho⟩ : ∃ o, r.getD j .zero = o := ⟨_, rfl⟩
    rw [ho] at c0 c1 c2 c3 c4 c5
    obtain ⟨ok, om, oa, ob2, oc, ov⟩ := o
    replace c0 : wr.cell? (xc.add (j * 6)) = some (.int .i64 ok) := c0
    replace c2 : wr.cell? ⟨(xc.add (j * 6)).block, (xc.add (j * 6)).off + 2, none⟩ = some (.int .i64 oa) := c2
    replace c3 : wr.cell? ⟨(xc.add (j * 6)).block, (xc.add (j * 6)).off + 3, none⟩ = some (.int .i64 ob2) := c3
    replace c4 : wr.cell? ⟨(xc.add (j * 6)).block, (xc.add (j * 6)).off + 4, none⟩ = some (.int .i64 oc) := c4
    replace c5 : wr.cell? ⟨(xc.add (j * 6)).block, (xc.add (j * 6)).off + 5, none⟩ = some (.int .i64 ov) := c5
    have Ho := Lib.hid ho
    clear ho hxbc c1
    subst hxc
    by_cases h4 : oc = 4
    case neg =>
      have h5 : (oc == 4) = false := by simp [h4]
      clear h4
      go_wp2_with fail
      go_roundw
      case rel => exact ⟨j + 1, by omega, by go_num, BR.out, IR.out⟩
      case measure => simp [intOf]; omega
    have hmem : (⟨ok, om, oa, ob2, oc, ov⟩ : OpR) ∈ r := by
      rw [← Ho.out, List.getD_eq_getElem?_getD, List.getElem?_eq_getElem (by rw [GG.out.len]; exact hlt)]
      exact List.getElem_mem _
    obtain ⟨hk2, o', ho', hq1, hq2, hq3, hq4⟩ := GG.out.ab _ hmem h4
    replace hk2 : ok = 2 := hk2
    subst hk2
    subst h4
    obtain ⟨mi, hmi, hme⟩ := List.getElem_of_mem ho'
    rw [GG.out.len] at hmi
    have HM := Lib.hid (show r.getD mi .zero = o' by rw [List.getD_eq_getElem?_getD, List.getElem?_eq_getElem (by rw [GG.out.len]; exact hmi)]; exact hme)
    have HQ := Lib.hid (show mi < cnt ∧ o'.c = 1 ∧ oa < o'.b ∧ o'.a < ob2 from ⟨hmi, hq1, hq3, hq4⟩)
    have HNE := Lib.hid (show mi ≠ j from fun e => by
      have h1 := HM.out
      rw [e, Ho.out] at h1
      rw [← h1] at hq1
      exact absurd hq1 (show ¬ (4 : Int) = 1 by decide))
    clear hmem ho' hq1 hq2 hq3 hq4 hmi hme
    have C0 := Lib.hid c0
    clear c0 c3 c5
    have c3 : wr.cell? ⟨(xc.add (j * 6)).block, (xc.add (j * 6)).off + 4, none⟩ = some (.int .i64 4) := c4
    go_wp2_with fail
    clear c2 c3 c4
    go_loopw [11, 10] (fun i bv wr2 => ∃ (k : Nat) (bb : Bool), k ≤ cnt ∧ i = .int .i64 k ∧ bv = .bool bb ∧ (mi < k → bb = true) ∧ Below w.heap.size w wr2 ∧ InOp wr2 (some xc) r) (fun i _ _ => cnt - (intOf i).toNat)
    case atStart => exact ⟨0, false, by omega, rfl, rfl, fun h => absurd h (by omega), BR.out, IR.out⟩
    case round =>
      clear BR IR C0
      obtain ⟨k, bb, hk, rfl, rfl, hbb, hb, hin⟩ := hrel
      have BR := Lib.hid hb
      have IR := Lib.hid hin
      have HBB := Lib.hid hbb
      clear hb hin hbb
      by_cases hlk : k < cnt
      case neg =>
        obtain rfl : k = cnt := by omega
        obtain rfl : bb = true := HBB.out HQ.out.1
        obtain ⟨y, hy, hyb, c0, _, _, _, _, _⟩ := InOp.op IR.out (i := j) (by rw [GG.out.len]; exact hlt)
        obtain rfl := Option.some.inj hy
        rw [Ho.out] at c0
        replace c0 : wr.cell? (xc.add (j * 6)) = some (.int .i64 2) := c0
        clear hy hyb
        go_wp2_with fail
        go_roundw
        case rel => exact ⟨j + 1, by omega, by go_num, BR.out, IR.out⟩
        case measure => simp [intOf]; omega
      have hlk2 : (k : Int) < (cnt : Int) := by omega
      have hk0 : (0 : Int) ≤ (k : Int) := by omega
      have hk4 : k ≤ 40 := by have := HC.out; omega
      obtain ⟨y, hy, hyb, _, _, j2, j3, _, _⟩ := InOp.op IR.out (i := j) (by rw [GG.out.len]; exact hlt)
      obtain rfl := Option.some.inj hy
      rw [Ho.out] at j2 j3
      replace j2 : wr.cell? ⟨(xc.add (j * 6)).block, (xc.add (j * 6)).off + 2, none⟩ = some (.int .i64 oa) := j2
      replace j3 : wr.cell? ⟨(xc.add (j * 6)).block, (xc.add (j * 6)).off + 3, none⟩ = some (.int .i64 ob2) := j3
      clear hy hyb
      obtain ⟨y, hy, hyb, _, _, k2, k3, k4, _⟩ := InOp.op IR.out (i := k) (by rw [GG.out.len]; exact hlk)
      obtain rfl := Option.some.inj hy
      obtain ⟨q, hq⟩ : ∃ q, r.getD k .zero = q := ⟨_, rfl⟩
      rw [hq] at k2 k3 k4
      obtain ⟨qk, qm, qa, qb, qc, qv⟩ := q
      replace k2 : wr.cell? ⟨(xc.add (k * 6)).block, (xc.add (k * 6)).off + 2, none⟩ = some (.int .i64 qa) := k2
      replace k3 : wr.cell? ⟨(xc.add (k * 6)).block, (xc.add (k * 6)).off + 3, none⟩ = some (.int .i64 qb) := k3
      replace k4 : wr.cell? ⟨(xc.add (k * 6)).block, (xc.add (k * 6)).off + 4, none⟩ = some (.int .i64 qc) := k4
      have HK := Lib.hid (show mi = k → qc = 1 ∧ oa < qb ∧ qa < ob2 from fun e => by
        have h1 := HM.out
        rw [e, hq] at h1
        have h2 := HQ.out
        rw [← h1] at h2
        exact h2.2)
      clear hy hyb hq
      cases bb with
      | true =>
        go_wp2_with fail
        go_quiet (fail)
        go_wp2_with fail
        go_roundw
        case rel => exact ⟨k + 1, true, by omega, by go_num, rfl, fun h => rfl, BR.out.trans ((below_drewN _ _).mono BR.out.size), IR.out.below (below_drewN _ _)⟩
        case measure => simp [intOf]; omega
      | false =>
        by_cases hkj : k = j
        · subst hkj
          have hkj2 : ((k : Int) == (k : Int)) = true := by simp
          go_wp2_with fail
          go_quiet (fail)
          go_wp2_with fail
          go_roundw
          case rel => exact ⟨k + 1, false, by omega, by go_num, rfl, fun h => (by have hn : ¬ mi < k := fun h => (by have := HBB.out h; cases this); have := HNE.out; omega), BR.out.trans ((below_drewN _ _).mono BR.out.size), IR.out.below (below_drewN _ _)⟩
          case measure => simp [intOf]; omega
        have hkj2 : ((k : Int) == (j : Int)) = false := by simp; omega
        have hkj3 : (k == j) = false := by simp [hkj]
        have hkj4 : ((k : Int) != (j : Int)) = true := by simp; omega
        have hkj5 : (k != j) = true := by simp [hkj]
        have hkj6 : decide (k = j) = false := by simp [hkj]
        have hkj7 : ¬ (k : Int) = (j : Int) := by omega
        by_cases hc1 : qc = 1
        case neg =>
          have hc2 : (qc == 1) = false := by simp [hc1]
          have HC1 := Lib.hid hc1
          clear hc1
          go_wp2_with fail
          go_quiet (fail)
          go_wp2_with fail
          go_roundw
          case rel => exact ⟨k + 1, false, by omega, by go_num, rfl, fun h => (by have hn : ¬ mi < k := fun h => (by have := HBB.out h; cases this); exact absurd (HK.out (by omega)).1 HC1.out), BR.out.trans ((below_drewN _ _).mono BR.out.size), IR.out.below (below_drewN _ _)⟩
          case measure => simp [intOf]; omega
        subst hc1
        by_cases hd1 : oa < qb
        case neg =>
          have hd2 : decide (oa < qb) = false := decide_eq_false hd1
          have HD1 := Lib.hid hd1
          clear hd1
          go_wp2_with fail
          go_quiet (fail)
          go_wp2_with fail
          go_roundw
          case rel => exact ⟨k + 1, false, by omega, by go_num, rfl, fun h => (by have hn : ¬ mi < k := fun h => (by have := HBB.out h; cases this); have h5 := (HK.out (by omega)).2.1; have h6 := HD1.out; omega), BR.out.trans ((below_drewN _ _).mono BR.out.size), IR.out.below (below_drewN _ _)⟩
          case measure => simp [intOf]; omega
        have hd2 : decide (oa < qb) = true := decide_eq_true hd1
        by_cases hf1 : qa < ob2
        case neg =>
          have hf2 : decide (qa < ob2) = false := decide_eq_false hf1
          have HF1 := Lib.hid hf1
          clear hf1
          go_wp2_with fail
          go_quiet (fail)
          go_wp2_with fail
          go_roundw
          case rel => exact ⟨k + 1, false, by omega, by go_num, rfl, fun h => (by have hn : ¬ mi < k := fun h => (by have := HBB.out h; cases this); have h5 := (HK.out (by omega)).2.2; have h6 := HF1.out; omega), BR.out.trans ((below_drewN _ _).mono BR.out.size), IR.out.below (below_drewN _ _)⟩
          case measure => simp [intOf]; omega
        have hf2 : decide (qa < ob2) = true := decide_eq_true hf1
        go_wp2_with fail
        go_quiet (fail)
        go_wp2_with fail
        go_roundw
        case rel => exact ⟨k + 1, true, by omega, by go_num, rfl, fun h => rfl, BR.out.trans ((below_drewN _ _).mono BR.out.size), IR.out.below (below_drewN _ _)⟩
        case measure => simp [intOf]; omega
end Go.Proofs.Ytllllbepnnpeeaa
