/-
  The reference's Sorted of layer 14: lists in ascending order.
-/
import Derived.Test.YtjejnkkefkompaaSrtL
namespace Go.Proofs.Ytjejnkkefkompaa
open Go Go.RowKit
set_option linter.unusedSimpArgs false
set_option linter.unusedVariables false

theorem srtE_pair (X : List Int) : (srtE X).Pairwise (fun x y => x ≤ y) := by
  have h := List.pairwise_mergeSort (le := fun x y : Int => !ltW y x) (fun a b c h1 h2 => by
    simp only [ltW, Bool.not_eq_true', decide_eq_false_iff_not] at *
    omega) (fun a b => by
    simp only [ltW, Bool.or_eq_true, Bool.not_eq_true', decide_eq_false_iff_not]
    omega) X
  refine h.imp (fun {a b} hab => ?_)
  simp only [ltW, Bool.not_eq_true', decide_eq_false_iff_not] at hab
  omega
theorem srtE_perm (X : List Int) : (srtE X).Perm X := List.mergeSort_perm X _
theorem srt_eq {X L : List Int} (h1 : L.Perm X) (h2 : L.Pairwise (fun x y => x ≤ y)) : L = srtE X :=
  List.Perm.eq_of_pairwise (fun a b _ _ h1 h2 => by omega) h2 (srtE_pair X) (h1.trans (srtE_perm X).symm)
theorem pair_elt {L : List Int} (h : L.Pairwise (fun x y => x ≤ y)) {i j : Nat} (hij : i < j) (hj : j < L.length) : elt L i ≤ elt L j := by
  have := List.pairwise_iff_getElem.1 h i j (by omega) hj hij
  unfold elt
  rw [List.getD_eq_getElem?_getD, List.getD_eq_getElem?_getD, List.getElem?_eq_getElem (by omega), List.getElem?_eq_getElem hj]
  exact this
theorem srtE_heap (X : List Int) : HeapE (srtE X) := fun j h0 hj => pair_elt (srtE_pair X) (by omega) hj
theorem ins_ok {L : List Int} {x : Int} {k : Nat} (h : L.Pairwise (fun x y => x ≤ y)) (hk : k ≤ L.length) (h1 : ∀ i, i < k → elt L i ≤ x) (h2 : k = L.length ∨ x < elt L k) :
    (L.take k ++ [x] ++ L.drop k).Pairwise (fun x y => x ≤ y) ∧ (L.take k ++ [x] ++ L.drop k).Perm (L ++ [x]) := by
  have hlo : ∀ y ∈ L.take k, y ≤ x := by
    intro y hy
    obtain ⟨i, hi, rfl⟩ := List.mem_iff_getElem.1 hy
    rw [List.length_take] at hi
    have := h1 i (by omega)
    unfold elt at this
    rw [List.getD_eq_getElem?_getD, List.getElem?_eq_getElem (by omega)] at this
    rw [List.getElem_take]
    exact this
  have hhi : ∀ y ∈ L.drop k, x ≤ y := by
    intro y hy
    obtain ⟨i, hi, rfl⟩ := List.mem_iff_getElem.1 hy
    rw [List.length_drop] at hi
    rw [List.getElem_drop]
    rcases h2 with h2 | h2
    · omega
    · have h3 : elt L k ≤ elt L (k + i) := by
        by_cases e : i = 0
        · subst e
          exact Int.le_refl _
        · exact pair_elt h (by omega) (by omega)
      have e2 : elt L (k + i) = L[k + i] := by
        unfold elt
        rw [List.getD_eq_getElem?_getD, List.getElem?_eq_getElem (by omega)]
        rfl
      omega
  have hsplit : L.take k ++ L.drop k = L := List.take_append_drop k L
  have hp : (L.take k ++ L.drop k).Pairwise (fun x y => x ≤ y) := by rw [hsplit]; exact h
  rw [List.pairwise_append] at hp
  refine ⟨?_, ?_⟩
  · rw [List.append_assoc, List.pairwise_append]
    refine ⟨hp.1, ?_, fun a ha b hb => ?_⟩
    · rw [List.singleton_append, List.pairwise_cons]
      exact ⟨hhi, hp.2.1⟩
    · rw [List.singleton_append, List.mem_cons] at hb
      rcases hb with rfl | hb
      · exact hlo a ha
      · exact hp.2.2 a ha b hb
  · have e : L ++ [x] = L.take k ++ (L.drop k ++ [x]) := by rw [← List.append_assoc, hsplit]
    rw [e, List.append_assoc]
    exact List.Perm.append_left _ List.perm_append_comm
theorem WV.take {w : World} {x : Addr} {m c k : Nat} {L : List Int} (h : InW w (some x) m L) (hc : m ≤ c) (hk : k ≤ m) : WV w (.slice (some x) k c) (L.take k) := by
  refine ⟨_, _, _, rfl, ⟨by rw [List.length_take, h.1]; omega, by have := h.2.1; omega, fun i hi => ?_⟩, by omega, fun e => by cases e⟩
  obtain ⟨y, e, hb, hcell⟩ := h.2.2 i (by omega)
  refine ⟨y, e, hb, ?_⟩
  rw [hcell, List.getD_eq_getElem?_getD, List.getD_eq_getElem?_getD, List.getElem?_take, if_pos (by omega)]
theorem WV.drop {w : World} {x : Addr} {m c k : Nat} {L : List Int} (h : InW w (some x) m L) (hc : m ≤ c) (hk : k ≤ m) : WV w (.slice (some (x.add k)) (m - k) (c - k)) (L.drop k) := by
  refine ⟨_, _, _, rfl, ⟨by rw [List.length_drop, h.1], by have := h.2.1; omega, fun i hi => ?_⟩, by omega, fun e => by cases e⟩
  obtain ⟨y, e, hb, hcell⟩ := h.2.2 (k + i) (by omega)
  obtain rfl : x = y := by injection e
  refine ⟨x.add k, rfl, by rw [block_add]; exact hb, ?_⟩
  rw [Addr.add_add, hcell, List.getD_eq_getElem?_getD, List.getD_eq_getElem?_getD, List.getElem?_drop]

theorem WV.drop0 {w : World} {x : Addr} {m k : Nat} {L : List Int} (h : InW w (some x) m L) (hk : m ≤ k) : WV w (.slice (some x) (m - k) 0) (L.drop k) :=
  ⟨_, _, _, rfl, ⟨by rw [List.length_drop, h.1], by have := h.2.1; omega, fun i hi => absurd hi (by omega)⟩, by omega, fun e => by cases e⟩
theorem take_one {X : List Int} {n j : Nat} (hn : X.length = n) (hj : j < n) : X.take (j + 1) = X.take j ++ [elt X j] := by
  have hj2 : j < X.length := by omega
  rw [List.take_succ_eq_append_getElem hj2]
  unfold elt
  rw [List.getD_eq_getElem?_getD, List.getElem?_eq_getElem hj2]
  rfl
set_option maxRecDepth 100000 in
set_option maxHeartbeats 8000000 in
theorem rsorted_any {w : World} {v : Value} {X : List Int} (h : WV w v X) (hl : X.length ≤ 900) :
    Calls Try.prog 19 #[v] w fun e w' => ∃ v', e = .returned v' ∧ WV w' v' (srtE X) ∧ Below w.heap.size w w' := by
  have HV := Lib.hid h
  obtain ⟨a, n, c, rfl, hi, hc, ha⟩ := h
  have hn := hi.1
  have HI := Lib.hid hi
  have HN := Lib.hid hn
  rw [hn] at hl
  clear hi hc ha hn
  go_enter Try.func19, Try.ntmps19
  go_wp2_with fail
  go_loopw [3, 4] (fun ov i wr => ∃ (j : Nat) (L : List Int), j ≤ n ∧ i = .int .i64 j ∧ WV wr ov L ∧ (j = 0 → ov = .slice none 0 0) ∧ L.Perm (X.take j) ∧ L.Pairwise (fun x y => x ≤ y) ∧ Below w.heap.size w wr) (fun _ i _ => n - (intOf i).toNat)
  case atStart => exact ⟨0, [], by omega, rfl, WV.nil w, fun _ => rfl, List.Perm.refl _, List.Pairwise.nil, Below.refl _ _⟩
  case round =>
    obtain ⟨j, L, hj, rfl, hov, hz, hp, hs, hb⟩ := hrel
    have HB := Lib.hid hb
    have HP := Lib.hid hp
    have HS := Lib.hid hs
    have hLl : L.length = j := by rw [hp.length_eq, List.length_take, HN.out]; omega
    have HOV := Lib.hid hov
    clear hp hs
    by_cases hlt : j < n
    · have dj : decide ((j : Int) < (n : Int)) = true := decide_eq_true (by omega)
      obtain ⟨x, rfl, hxb, hx⟩ := HI.out.2.2 j hlt
      have hx2 : wr.cell? (x.add j) = some (.int .u64 (elt X j)) := (hb.cell (by rw [block_add]; exact hxb)).trans hx
      have HCX0 := Lib.hid hx2
      have HXB0 := Lib.hid (show x.block < wr.heap.size from Nat.lt_of_lt_of_le hxb hb.size)
      clear hx hb hx2
      by_cases hj0 : j = 0
      · obtain rfl := hz hj0
        subst hj0
        clear hov hz HOV
        obtain rfl : L = [] := List.eq_nil_of_length_eq_zero hLl
        go_wp2_with fail
        go_loopw [5] (fun u wq => u = .int .i64 0 ∧ ∃ d, wq = wr.drewN d) (fun u _ => 0)
        case atStart => exact ⟨rfl, 0, rfl⟩
        case round =>
          obtain ⟨rfl, dq, rfl⟩ := hrel
          go_wp2_with fail
          go_quiet (fail)
          have HCX : Hid (((wr.drewN dq).drewN nq).cell? (x.add 0) = some (.int .u64 (elt X 0))) := HCX0
          have HXB : Hid (x.block < ((wr.drewN dq).drewN nq).heap.size) := HXB0
          have HBV : Hid (Below w.heap.size w ((wr.drewN dq).drewN nq)) := Lib.hid (HB.out.trans (((below_drewN wr dq).trans (below_drewN (wr.drewN dq) nq)).mono HB.out.size))
          generalize (wr.drewN dq).drewN nq = V2 at *
          obtain ⟨u, hu⟩ : ∃ u, elt X 0 = u := ⟨_, rfl⟩
          rw [hu] at HCX
          have HU := Lib.hid hu
          clear hu
          have HO := Lib.hid (OwnW.made0 V2)
          have HB0 := Lib.hid (below_one V2 (.cells #[] 23))
          have HTK := Lib.hid ((WV.nil V2).below (below_one V2 (.cells #[] 23)))
          go_wp2_with (at_builtin; refine Hid.out ?_)
          refine Lib.hid ?_
          refine wpList_appUN rfl _ _ rfl rfl HO.out rfl HTK.out (by first | decide | (simp; done) | (simp; omega)) (by simp) ?_
          intro v1 w1 ho1 hg1 hnn1
          rw [List.nil_append] at ho1
          have hb1 := below_appU HB0.out HO.out (Nat.le_refl _) hg1
          have HB1 := Lib.hid hb1
          have HO1 := Lib.hid (ho1.alloc (.cells #[.int .u64 u] 23))
          have HBA := Lib.hid (hb1.trans ((below_one w1 (.cells #[.int .u64 u] 23)).mono hb1.size))
          have HN1 : Hid (WV (w1.alloc (.cells #[.int .u64 u] 23)) (.slice (some ⟨w1.heap.size, 0, none⟩) 1 1) [u]) := Lib.hid ((OwnW.lit w1 w1.heap.size [u] (Nat.le_refl _) (by unfold maxLen; simp)).wv)
          have cx := (hb1.cell (p := x.add 0) (by rw [block_add]; exact HXB.out)).trans HCX.out
          rw [show x.add 0 = x by unfold Addr.add; simp] at cx
          clear hg1 hb1 ho1 HO HB0 HTK
          go_wp2_with (at_builtin; refine Hid.out ?_)
          refine Lib.hid ?_
          refine wpList_appUN rfl _ _ rfl rfl HO1.out rfl HN1.out (by first | decide | (simp; done) | (simp; omega)) HBA.out.size ?_
          intro v2 w2 ho2 hg2 hnn2
          have HO2 := Lib.hid ho2
          have HB2 := Lib.hid (below_appU HBA.out HO1.out (Nat.le_refl _) hg2)
          have HDR := Lib.hid ((WV.nil V2).below HB2.out)
          clear ho2 hg2 HO1 HN1 HBA HB1 cx
          go_wp2_with (at_builtin; refine Hid.out ?_)
          refine Lib.hid ?_
          refine wpList_appUN rfl _ _ rfl rfl HO2.out rfl HDR.out (by first | decide | (simp; done) | (simp; omega)) HB2.out.size ?_
          intro v3 w3 ho3 hg3 hnn3
          have HB3 := Lib.hid (HBV.out.trans ((below_appU HB2.out HO2.out (Nat.le_refl _) hg3).mono HBV.out.size))
          have HO3 := Lib.hid ho3.wv
          clear ho3 hg3 HO2 HB2 HDR
          go_wp2_with fail
          go_roundw
          case rel => exact ⟨0 + 1, _, by omega, by go_num, HO3.out, by omega, (by rw [List.append_nil, List.nil_append]; rw [take_one HN.out hlt, HU.out]; exact List.Perm.refl _), (by simp), HB3.out⟩
          case measure => simp [intOf] <;> omega
      · obtain ⟨oa, m, oc, rfl, hoi, hoc, hoa⟩ := hov
        obtain rfl : m = j := by rw [← hoi.1]; exact hLl
        obtain ⟨y, rfl, hyb, hy⟩ := hoi.2.2 0 (by omega)
        have HOI := Lib.hid hoi
        have hoc0 : ¬ oc = 0 := by omega
        clear hoi hy hoa hz hj0
        go_wp2_with fail
        go_loopw [5] (fun u wq => ∃ (k d : Nat), u = .int .i64 k ∧ k ≤ m ∧ (∀ i, i < k → elt L i ≤ elt X m) ∧ wq = wr.drewN d) (fun u _ => m - (intOf u).toNat)
        case atStart => exact ⟨0, 0, rfl, by omega, fun i hi => by omega, rfl⟩
        case round =>
          obtain ⟨k, dq, rfl, hk, hall, rfl⟩ := hrel
          have HALL := Lib.hid hall
          clear hall
          obtain ⟨s6, hs6⟩ : ∃ s, (decide (k < m) && decide (elt L k ≤ elt X m)) = s := ⟨_, rfl⟩
          have HS6 := Lib.hid hs6
          clear hs6
          go_upto_region 6 with fail
          go_cut [27] from 13 to 27 (fun v wx => v = .bool s6 ∧ ∃ d, wx = (wr.drewN dq).drewN d)
          case first =>
            have hs := HS6.out
            by_cases hg : k < m
            · have dg : decide ((k : Int) < (m : Int)) = true := decide_eq_true (by omega)
              have c1 : (wr.drewN dq).cell? (y.add k) = some (.int .u64 (elt L k)) := HOI.out.cell hg
              have c2 : (wr.drewN dq).cell? (x.add m) = some (.int .u64 (elt X m)) := HCX0.out
              rw [decide_eq_true hg, Bool.true_and] at hs
              clear HS6
              generalize wr.drewN dq = V at *
              by_cases hle : elt L k ≤ elt X m
              · have dl : decide (elt L k ≤ elt X m) = true := decide_eq_true hle
                rw [dl] at hs
                subst hs
                go_quiet (fail)
                (try go_wp2_with fail)
                go_meet
                case rel => exact ⟨rfl, nq, rfl⟩
              · have dl : decide (elt L k ≤ elt X m) = false := decide_eq_false hle
                rw [dl] at hs
                subst hs
                go_quiet (fail)
                (try go_wp2_with fail)
                go_meet
                case rel => exact ⟨rfl, nq, rfl⟩
            · have dg : decide ((k : Int) < (m : Int)) = false := decide_eq_false (by omega)
              rw [decide_eq_false hg, Bool.false_and] at hs
              clear HS6
              subst hs
              go_quiet (fail)
              (try go_wp2_with fail)
              go_meet
              case rel => exact ⟨rfl, nq, rfl⟩
          case rest =>
          obtain ⟨rfl, kT, rfl⟩ := hcut
          cases s6 with
          | true =>
            have h6 := HS6.out
            rw [Bool.and_eq_true] at h6
            have h61 := of_decide_eq_true h6.1
            have HAN := Lib.hid (show ∀ i, i < k + 1 → elt L i ≤ elt X m from fun i hi => by
              by_cases e : i = k
              · subst e
                exact of_decide_eq_true h6.2
              · exact HALL.out i (by omega))
            have HDD := Lib.hid (World.drewN_drewN wr dq kT)
            clear h6 HS6
            go_wp2_with fail
            go_roundw
            case rel => exact ⟨k + 1, _, by go_num, by omega, HAN.out, rfl⟩
            case measure => simp [intOf] <;> omega
          | false =>
            have HEND := Lib.hid (show k = L.length ∨ elt X m < elt L k by
              have h6 := HS6.out
              rw [hLl]
              by_cases e : k = m
              · exact .inl e
              · rw [decide_eq_true (show k < m by omega), Bool.true_and] at h6
                have := of_decide_eq_false h6
                exact .inr (by omega))
            have hkc : k ≤ oc := by omega
            clear HS6
            have HCX : Hid (((wr.drewN dq).drewN kT).cell? (x.add m) = some (.int .u64 (elt X m))) := HCX0
            have HXB : Hid (x.block < ((wr.drewN dq).drewN kT).heap.size) := HXB0
            have HOV2 : Hid (InW ((wr.drewN dq).drewN kT) (some y) m L) := HOI
            have HBV : Hid (Below w.heap.size w ((wr.drewN dq).drewN kT)) := Lib.hid (HB.out.trans (((below_drewN wr dq).trans (below_drewN (wr.drewN dq) kT)).mono HB.out.size))
            generalize (wr.drewN dq).drewN kT = V2 at *
            obtain ⟨u, hu⟩ : ∃ u, elt X m = u := ⟨_, rfl⟩
            rw [hu] at HCX
            have HU := Lib.hid hu
            clear hu
            have HO := Lib.hid (OwnW.made0 V2)
            have HB0 := Lib.hid (below_one V2 (.cells #[] 23))
            have HTK := Lib.hid ((WV.take HOV2.out hoc hk).below (below_one V2 (.cells #[] 23)))
            go_wp2_with (at_builtin; refine Hid.out ?_)
            refine Lib.hid ?_
            refine wpList_appUN rfl _ _ rfl rfl HO.out rfl HTK.out (by have := List.length_take_le k L; simp; omega) (by simp) ?_
            intro v1 w1 ho1 hg1 hnn1
            rw [List.nil_append] at ho1
            have hb1 := below_appU HB0.out HO.out (Nat.le_refl _) hg1
            have HB1 := Lib.hid hb1
            have HO1 := Lib.hid (ho1.alloc (.cells #[.int .u64 u] 23))
            have HBA := Lib.hid (hb1.trans ((below_one w1 (.cells #[.int .u64 u] 23)).mono hb1.size))
            have HN1 : Hid (WV (w1.alloc (.cells #[.int .u64 u] 23)) (.slice (some ⟨w1.heap.size, 0, none⟩) 1 1) [u]) := Lib.hid ((OwnW.lit w1 w1.heap.size [u] (Nat.le_refl _) (by unfold maxLen; simp)).wv)
            have cx := (hb1.cell (p := x.add m) (by rw [block_add]; exact HXB.out)).trans HCX.out
            clear hg1 hb1 ho1 HO HB0 HTK
            go_wp2_with (at_builtin; refine Hid.out ?_)
            refine Lib.hid ?_
            refine wpList_appUN rfl _ _ rfl rfl HO1.out rfl HN1.out (by have := List.length_take_le k L; simp; omega) HBA.out.size ?_
            intro v2 w2 ho2 hg2 hnn2
            have HO2 := Lib.hid ho2
            have HB2 := Lib.hid (below_appU HBA.out HO1.out (Nat.le_refl _) hg2)
            by_cases hok : oc = k
            · have HDR := Lib.hid ((WV.drop0 HOV2.out (by omega : m ≤ k)).below HB2.out)
              clear ho2 hg2 HO1 HN1 HBA HB1 cx
              go_wp2_with (at_builtin; refine Hid.out ?_)
              refine Lib.hid ?_
              refine wpList_appUN rfl _ _ rfl rfl HO2.out rfl HDR.out (by rw [List.length_append, List.length_take, List.length_drop]; simp; omega) HB2.out.size ?_
              intro v3 w3 ho3 hg3 hnn3
              have HB3 := Lib.hid (HBV.out.trans ((below_appU HB2.out HO2.out (Nat.le_refl _) hg3).mono HBV.out.size))
              have HO3 := Lib.hid ho3.wv
              clear ho3 hg3 HO2 HB2 HDR
              go_wp2_with fail
              go_roundw
              case rel => exact ⟨m + 1, _, by omega, by go_num, HO3.out, by omega, ((ins_ok HS.out (by rw [hLl]; exact hk) (HU.out ▸ HALL.out) (HU.out ▸ HEND.out)).2.trans (by rw [take_one HN.out hlt, HU.out]; exact List.Perm.append_right _ HP.out)), (ins_ok HS.out (by rw [hLl]; exact hk) (HU.out ▸ HALL.out) (HU.out ▸ HEND.out)).1, HB3.out⟩
              case measure => simp [intOf] <;> omega
            · have HDR := Lib.hid ((WV.drop HOV2.out hoc hk).below HB2.out)
              clear ho2 hg2 HO1 HN1 HBA HB1 cx
              go_wp2_with (at_builtin; refine Hid.out ?_)
              refine Lib.hid ?_
              refine wpList_appUN rfl _ _ rfl rfl HO2.out rfl HDR.out (by rw [List.length_append, List.length_take, List.length_drop]; simp; omega) HB2.out.size ?_
              intro v3 w3 ho3 hg3 hnn3
              have HB3 := Lib.hid (HBV.out.trans ((below_appU HB2.out HO2.out (Nat.le_refl _) hg3).mono HBV.out.size))
              have HO3 := Lib.hid ho3.wv
              clear ho3 hg3 HO2 HB2 HDR
              go_wp2_with fail
              go_roundw
              case rel => exact ⟨m + 1, _, by omega, by go_num, HO3.out, by omega, ((ins_ok HS.out (by rw [hLl]; exact hk) (HU.out ▸ HALL.out) (HU.out ▸ HEND.out)).2.trans (by rw [take_one HN.out hlt, HU.out]; exact List.Perm.append_right _ HP.out)), (ins_ok HS.out (by rw [hLl]; exact hk) (HU.out ▸ HALL.out) (HU.out ▸ HEND.out)).1, HB3.out⟩
              case measure => simp [intOf] <;> omega
    · obtain rfl : j = n := by omega
      have dj : decide ((j : Int) < (j : Int)) = false := by simp
      have e1 : X.take j = X := List.take_of_length_le (by rw [HN.out]; exact Nat.le_refl _)
      have hP := HP.out
      rw [e1] at hP
      have HQ := Lib.hid (srt_eq hP HS.out)
      clear e1 hP hov hz hb
      go_wp2_with fail
      go_ret
      exact ⟨_, rfl, by rw [← HQ.out]; exact HOV.out, HB.out⟩
end Go.Proofs.Ytjejnkkefkompaa
