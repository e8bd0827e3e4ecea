/-
  Stage 11: a player's next act, the end of its operation.
-/
import Derived.Test.YtjehiekmlbeaeaaGreatMgAP
import Derived.Test.YtjehiekmlbeaeaaGreatSeq
namespace Go.Proofs.YtjehiekmlbeaeaaGreat
open Go Go.RowKit Go.Shelf
set_option linter.unusedSimpArgs false
set_option linter.unusedVariables false

/-- What next gives. -/
def NexP (w : World) (B bp K i : Nat) (row : Nat → Nat → Value) (C : Int) (a : ActR) (r : List ActR) (e : Ending) (w' : World) : Prop :=
  ∃ (x : Nat) (v0 : Value) (row' : Nat → Nat → Value), e = .returned (.tuple #[]) ∧ AcR w' B v0 r ∧ MO w' x (actM C a) ∧ w.heap.size ≤ x ∧ Fr [bp] w w' ∧ PB w' bp K row' ∧ row' i 0 = v0 ∧ row' i 1 = mval x (actM C a) ∧ row' i 2 = .int .i64 a.k ∧ row' i 7 = .int .i64 (actV a)
    ∧ ∀ b c, b ≠ i ∨ (c ≠ 0 ∧ c ≠ 1 ∧ c ≠ 2 ∧ c ≠ 7) → row' b c = row b c
/-- What holds on the way: the queue's copy, the act's copy. -/
structure NxS (w : World) (B bp K qb ab : Nat) (C : Int) (a : ActR) (r : List ActR) (v0 : Value) (row : Nat → Nat → Value) (u : World) : Prop where
  q : Blk u qb 91 (qcells 0 1 2 C)
  a : Blk u ab 138 #[.int .i64 a.k, .int .i64 a.v]
  p : PB u bp K row
  c : AcR u B v0 r
  f : Fr [bp] w u
theorem NxS.below {w : World} {B bp K qb ab : Nat} {C : Int} {a : ActR} {r : List ActR} {v0 : Value} {row : Nat → Nat → Value} {u u' : World} (h : NxS w B bp K qb ab C a r v0 row u) (hb : Below u.heap.size u u') : NxS w B bp K qb ab C a r v0 row u' :=
  ⟨h.q.below hb, h.a.below hb, h.p.below hb, h.c.below hb, h.f.trans (Fr.old hb)⟩
theorem NxS.put {w : World} {B bp K qb ab : Nat} {C : Int} {a : ActR} {r : List ActR} {v0 : Value} {row : Nat → Nat → Value} {u : World} (h : NxS w B bp K qb ab C a r v0 row u) (i j : Nat) (hj : j < 8) (v : Value) : NxS w B bp K qb ab C a r v0 (rowS row i j v) (u.setCell ⟨bp, i * 8 + j, none⟩ v) := by
  have hf : Fr [bp] u (u.setCell ⟨bp, i * 8 + j, none⟩ v) := (Fr.refl _ _).setCell (by simp) _
  exact ⟨h.q.of_same (hf.block qb h.q.lt (by simpa using (h.p.apart h.q (by decide)).symm)), h.a.of_same (hf.block ab h.a.lt (by simpa using (h.p.apart h.a (by decide)).symm)), h.p.put i j hj v, h.c.fr hf (fun g cur hg => by simpa using (h.p.apart hg (by decide)).symm), h.f.trans hf⟩
/-- .. what a store to the players leaves alone. -/
structure NxL (bp qb ab : Nat) (C : Int) (a : ActR) (u : World) : Prop where
  q : Blk u qb 91 (qcells 0 1 2 C)
  a : Blk u ab 138 #[.int .i64 a.k, .int .i64 a.v]
theorem MO.offP {u : World} {bp K x o : Nat} {row : Nat → Nat → Value} {X : Mach} (h : MO u x X) (hp : PB u bp K row) (h1 : 145 ≠ 264) (h2 : 145 ≠ 267) (h3 : 145 ≠ 270) (v : Value) : MO (u.setCell ⟨bp, o, none⟩ v) x X := by
  obtain ⟨cs, hb, _⟩ := hp
  exact h.off hb h1 h2 h3 ((Fr.refl _ _).setCell (by simp) _)
/-- The machine that an act's kind makes. -/
def MadeX (X : Mach) (w : World) (e : Ending) (w' : World) : Prop := ∃ x : Nat, e = .returned (mval x X) ∧ MO w' x X ∧ w.heap.size ≤ x ∧ Below w.heap.size w w'
theorem madePush (C v : Int) (hC : C ≤ 100) (w : World) : Calls Tryz.prog 115 #[qv 0 1 2 C, .int .i64 v] w fun e w' => ∃ x : Nat, e = .returned (.iface 259 (.pointer (some ⟨x, 0, none⟩))) ∧ MO w' x (.push (fraP 0 C v)) ∧ w.heap.size ≤ x ∧ Below w.heap.size w w' := by
  refine (oPush_any 0 1 2 C v w).mono ?_
  rintro e w1 ⟨x, rfl, ho, hx, hb⟩
  exact ⟨x, rfl, ⟨ho, pushOkP C hC v⟩, hx, hb⟩
theorem madePop (C : Int) (hC : C ≤ 100) (w : World) : Calls Tryz.prog 116 #[qv 0 1 2 C] w fun e w' => ∃ x : Nat, e = .returned (.iface 265 (.pointer (some ⟨x, 0, none⟩))) ∧ MO w' x (.pop (fraP 1 C 0)) ∧ w.heap.size ≤ x ∧ Below w.heap.size w w' := by
  refine (oPop_any 0 1 2 C w).mono ?_
  rintro e w1 ⟨x, rfl, ho, hx, hb⟩
  exact ⟨x, rfl, ⟨ho, popOkP C hC⟩, hx, hb⟩
theorem madeSteal (C : Int) (hC : C ≤ 100) (w : World) : Calls Tryz.prog 117 #[qv 0 1 2 C] w fun e w' => ∃ x : Nat, e = .returned (.iface 268 (.pointer (some ⟨x, 0, none⟩))) ∧ MO w' x (.steal (fraP 2 C 0)) ∧ w.heap.size ≤ x ∧ Below w.heap.size w w' := by
  refine (oSteal_any 0 1 2 C w).mono ?_
  rintro e w1 ⟨x, rfl, ho, hx, hb⟩
  exact ⟨x, rfl, ⟨ho, stealOkP C hC⟩, hx, hb⟩
set_option maxRecDepth 100000 in
set_option maxHeartbeats 16000000 in
theorem pnext_any {w : World} {B bp K i : Nat} {row : Nat → Nat → Value} {C : Int} {a : ActR} {r : List ActR} (hC : C ≤ 100) (hp : PB w bp K row) (hi : i < K) (h0 : AcR w B (row i 0) (a :: r)) (hk : a.k = 0 ∨ a.k = 1 ∨ a.k = 2) (h7 : row i 7 = .int .i64 0) :
    Calls Tryz.prog 99 #[.pointer (some ⟨bp, i * 8, none⟩), qv 0 1 2 C] w (NexP w B bp K i row C a r) := by
  obtain ⟨k, v⟩ := a
  have HK := Lib.hid hk
  have HC := Lib.hid (And.intro hC (And.intro hi h7))
  have hp1 := hp.below (below_one w (.cells (qcells 0 1 2 C) 91))
  have hr1 := h0.below (below_one w (.cells (qcells 0 1 2 C) 91))
  have HQ := Lib.hid (Blk.made w 91 (qcells 0 1 2 C))
  have HF := Lib.hid (show Fr [bp] w (w.alloc (.cells (qcells 0 1 2 C) 91)) from Fr.old (below_one w _))
  have HSZ := Lib.hid (show w.heap.size ≤ (w.alloc (.cells (qcells 0 1 2 C) 91)).heap.size by simp)
  clear hp h0 hk hC h7
  go_enter Tryz.func99, Tryz.ntmps99
  go_upto_region 1 with fail
  generalize w.alloc (.cells (qcells 0 1 2 C) 91) = W at *
  obtain ⟨qb, hqb⟩ : ∃ qb, w.heap.size = qb := ⟨_, rfl⟩
  rw [hqb] at HQ ⊢
  clear hqb
  obtain ⟨g, oa, c, cur, hv0, hc, hBg, hg, e0, e1, hml, hone, hrest⟩ := hr1.next
  replace e0 : W.cell? ⟨g, oa, none⟩ = some (.int .i64 k) := e0
  replace e1 : W.cell? ⟨g, oa + 1, none⟩ = some (.int .i64 v) := e1
  have HP := Lib.hid hp1
  have p0 := hp1.cell hi 0 (by omega)
  rw [hv0, Nat.add_zero] at p0
  obtain ⟨o, ho⟩ : ∃ o, i * 8 = o := ⟨_, rfl⟩
  have HO := Lib.hid ho
  rw [ho] at p0 ⊢
  obtain ⟨n, hn⟩ : ∃ n, r.length = n := ⟨_, rfl⟩
  obtain ⟨n1, hn1⟩ : ∃ n1, r.length + 1 = n1 := ⟨_, rfl⟩
  rw [hn1] at p0 hc
  have hn2 : n1 - 1 = n := by omega
  have HR := Lib.hid (And.intro hone (And.intro hrest (And.intro hn hn2)))
  have hnb : (1 : Int) ≤ (n1 : Int) ∧ (n1 : Int) ≤ 9223372036854775807 := by unfold maxLen at hml; omega
  have hnc : (n1 : Int) ≤ (c : Int) := by omega
  have HV := Lib.hid (show row i 0 = .slice (some ⟨g, oa, none⟩) n1 c by rw [hv0, hn1])
  clear hone hrest hn hn1 hn2 hml hv0 hr1 hp1 ho hg hBg
  go_upto_region 2 with fail
  clear e0 e1
  have HA := Lib.hid (Blk.made W 138 #[.int .i64 k, .int .i64 v])
  have HQ2 := Lib.hid (HQ.out.alloc (.cells #[.int .i64 k, .int .i64 v] 138))
  have HP2 := Lib.hid (HP.out.below (below_one W (.cells #[.int .i64 k, .int .i64 v] 138)))
  have HR2 := Lib.hid (show (c = 1 → AcR (W.alloc (.cells #[.int .i64 k, .int .i64 v] 138)) B (.slice (some ⟨g, oa, none⟩) n (c - 1)) r) ∧ AcR (W.alloc (.cells #[.int .i64 k, .int .i64 v] 138)) B (.slice (some ⟨g, oa + 2, none⟩) n (c - 1)) r from
    ⟨fun h => HR.out.2.2.1 ▸ (HR.out.1 h).below (below_one _ _), HR.out.2.2.1 ▸ HR.out.2.1.below (below_one _ _)⟩)
  have HF2 := Lib.hid (HF.out.alloc (.cells #[.int .i64 k, .int .i64 v] 138))
  have HSZ2 := Lib.hid (show w.heap.size ≤ (W.alloc (.cells #[.int .i64 k, .int .i64 v] 138)).heap.size by have := HSZ.out; simp; omega)
  have HN1 := Lib.hid HR.out.2.2.2
  clear HQ HP HF HR HSZ p0
  generalize W.alloc (.cells #[.int .i64 k, .int .i64 v] 138) = W2 at *
  generalize W.heap.size = ab at *
  have p0 := HP2.out.cell HC.out.2.1 0 (by omega)
  rw [HO.out, Nat.add_zero] at p0
  have f0 := HP2.out.free o
  rw [HV.out] at p0
  go_cut [] from 11 to 18 (fun wx => ∃ v0, wx = W2.setCell ⟨bp, o, none⟩ v0 ∧ AcR W2 B v0 r)
  case first =>
    by_cases hc1 : c = 1
    · subst hc1
      have hn1 : n1 = 1 := by omega
      subst hn1
      have HE := Lib.hid (HR2.out.1 rfl)
      have hn0 : n = 0 := by have := HN1.out; omega
      subst hn0
      go_wp2_with fail
      go_meet
      case rel => exact ⟨_, rfl, HE.out⟩
    · have hc2 : (2 : Int) ≤ (c : Int) := by omega
      have HE := Lib.hid HR2.out.2
      go_wp2_with fail
      go_meet
      case rel =>
        refine ⟨_, rfl, ?_⟩
        rw [HN1.out]
        exact HE.out
  case rest =>
  obtain ⟨v0, hwc, hac⟩ := hcut
  have S3 : NxS w B bp K qb ab C ⟨k, v⟩ r v0 (rowS row i 0 v0) wc := by
    have h : NxS w B bp K qb ab C ⟨k, v⟩ r v0 row W2 := ⟨HQ2.out, HA.out, HP2.out, hac, HF2.out⟩
    have := h.put i 0 (by omega) v0
    rw [HO.out, Nat.add_zero, ← hwc] at this
    exact this
  have S3 := Lib.hid S3
  have HZ3 := Lib.hid (show w.heap.size ≤ wc.heap.size by rw [hwc]; simpa using HSZ2.out)
  clear hwc hac HQ2 HA HP2 HF2 HR2 HSZ2 HN1 HV p0 f0
  have a0 : wc.cell? ⟨ab, 0, none⟩ = some (.int .i64 k) := S3.out.a.at_ 0
  have p2 := S3.out.p.cell HC.out.2.1 2 (by omega)
  rw [HO.out] at p2
  have f2 := S3.out.p.free (o + 2)
  go_upto_region 4 with fail
  clear a0 p2 f2
  have S4 := Lib.hid (HO.out ▸ S3.out.put i 2 (by omega) (.int .i64 k) : NxS w B bp K qb ab C ⟨k, v⟩ r v0 (rowS (rowS row i 0 v0) i 2 (.int .i64 k)) (wc.setCell ⟨bp, o + 2, none⟩ (.int .i64 k)))
  have HZ4 := Lib.hid (show w.heap.size ≤ (wc.setCell ⟨bp, o + 2, none⟩ (.int .i64 k)).heap.size by simpa using HZ3.out)
  clear S3 HZ3
  generalize wc.setCell ⟨bp, o + 2, none⟩ (.int .i64 k) = W4 at *
  obtain ⟨row4, hrow4⟩ : ∃ row4, rowS (rowS row i 0 v0) i 2 (.int .i64 k) = row4 := ⟨_, rfl⟩
  rw [hrow4] at S4
  have HROW := Lib.hid (show row4 i 0 = v0 ∧ row4 i 2 = .int .i64 k ∧ row4 i 7 = .int .i64 0 ∧ ∀ b c, b ≠ i ∨ (c ≠ 0 ∧ c ≠ 2) → row4 b c = row b c from by
    subst hrow4
    refine ⟨by rw [rowS_ne _ _ _ _ (by omega), rowS_at], rowS_at .., by rw [rowS_ne _ _ _ _ (by omega), rowS_ne _ _ _ _ (by omega)]; exact HC.out.2.2, fun b c h => ?_⟩
    rw [rowS_ne _ _ _ _ (by omega), rowS_ne _ _ _ _ (by omega)])
  clear hrow4
  have a0 : W4.cell? ⟨ab, 0, none⟩ = some (.int .i64 k) := S4.out.a.at_ 0
  have hkk := HK.out
  replace hkk : k = 0 ∨ k = 1 ∨ k = 2 := hkk
  rcases hkk with hk | hk | hk
  · subst hk
    go_upto_region 6 with fail
    clear a0
    have HD := Lib.hid (show NxL bp qb ab C ⟨0, v⟩ W4.drew from ⟨S4.out.q, S4.out.a⟩)
    have HS5 := Lib.hid (S4.out.below (below_drew (Below.refl _ _)))
    have HZ5 := Lib.hid (show w.heap.size ≤ W4.drew.heap.size from HZ4.out)
    clear S4 HZ4
    refine wp_region_held_drew (S := NxL bp qb ab C ⟨0, v⟩) (by kernel_rfl) HD.out (fun _ => ?_)
    change wpAnyH _ _ _ _ _ 15 #[false, false, false, false, false, false, false, false, false, false, false, false, false, false, false] _ (World.drew _)
    generalize W4.drew = V at *
    refine wpAnyH_take (i := 0) (v := .pointer (some ⟨bp, o, none⟩)) rfl (by kernel_rfl) (by kernel_rfl) (by kernel_rfl) (fun _ _ _ h => h) (Or.inl ⟨by rfl, fun u hu => by (go_simp)⟩) HD.out ?_
    simp only [List.getElem_toArray, List.getElem_cons_succ, List.getElem_cons_zero, Act.put, List.setIfInBounds_toArray, List.set_cons_zero, List.set_cons_succ]
    refine wpAnyH_take (i := 1) (v := .pointer (some ⟨bp, o, none⟩)) rfl (by kernel_rfl) (by kernel_rfl) (by kernel_rfl) (fun _ _ _ h => h) (Or.inl ⟨by rfl, fun u hu => by (go_simp)⟩) HD.out ?_
    simp only [List.getElem_toArray, List.getElem_cons_succ, List.getElem_cons_zero, Act.put, List.setIfInBounds_toArray, List.set_cons_zero, List.set_cons_succ]
    refine wpAnyH_take (i := 2) (v := qv 0 1 2 C) rfl (by kernel_rfl) (by kernel_rfl) (by kernel_rfl) (fun _ _ _ h => h) (yields_row (by kernel_rfl) _ _ rfl qb (by kernel_rfl) 91 (qcells 0 1 2 C) (fun u hu => hu.q) _ Tryz.underlying91 rfl (by kernel_rfl)) HD.out ?_
    simp only [List.getElem_toArray, List.getElem_cons_succ, List.getElem_cons_zero, Act.put, List.setIfInBounds_toArray, List.set_cons_zero, List.set_cons_succ]
    refine wpAnyH_take (i := 3) (v := .pointer (some ⟨ab, 1, none⟩)) rfl (by kernel_rfl) (by kernel_rfl) (by kernel_rfl) (fun _ _ _ h => h) (Or.inl ⟨by rfl, fun u hu => by (go_simp)⟩) HD.out ?_
    simp only [List.getElem_toArray, List.getElem_cons_succ, List.getElem_cons_zero, Act.put, List.setIfInBounds_toArray, List.set_cons_zero, List.set_cons_succ]
    refine wpAnyH_take (i := 4) (v := .int .i64 v) rfl (by kernel_rfl) (by kernel_rfl) (by kernel_rfl) (fun _ _ _ h => h) (Or.inl ⟨by rfl, fun u hu => by (have z : u.cell? ⟨ab, 1, none⟩ = some (.int .i64 v) := hu.a.at_ 1; go_simp)⟩) HD.out ?_
    simp only [List.getElem_toArray, List.getElem_cons_succ, List.getElem_cons_zero, Act.put, List.setIfInBounds_toArray, List.set_cons_zero, List.set_cons_succ]
    refine wpAnyH_take (i := 6) (v := .pointer (some ⟨ab, 1, none⟩)) rfl (by kernel_rfl) (by kernel_rfl) (by kernel_rfl) (fun _ _ _ h => h) (Or.inl ⟨by rfl, fun u hu => by (go_simp)⟩) HD.out ?_
    simp only [List.getElem_toArray, List.getElem_cons_succ, List.getElem_cons_zero, Act.put, List.setIfInBounds_toArray, List.set_cons_zero, List.set_cons_succ]
    refine wpAnyH_take (i := 7) (v := .int .i64 v) rfl (by kernel_rfl) (by kernel_rfl) (by kernel_rfl) (fun _ _ _ h => h) (Or.inl ⟨by rfl, fun u hu => by (have z : u.cell? ⟨ab, 1, none⟩ = some (.int .i64 v) := hu.a.at_ 1; go_simp)⟩) HD.out ?_
    simp only [List.getElem_toArray, List.getElem_cons_succ, List.getElem_cons_zero, Act.put, List.setIfInBounds_toArray, List.set_cons_zero, List.set_cons_succ]
    refine wpAnyH_ready (rs := [5]) (by kernel_rfl) (by simp) ?_
    refine AllReadyH.cons rfl (fun KK hK => ?_) AllReadyH.nil
    go_simp
    go_at_call 115
    (with_reducible refine (madePush C v HC.out.1 _).mono ?_)
    rintro e u1 ⟨x, rfl, hmo, hx, hb1⟩
    have HS6 := Lib.hid (HS5.out.below hb1)
    have HM6 := Lib.hid (And.intro hmo (Nat.le_trans HZ5.out hx))
    clear hmo hx hb1 HD HS5 HZ5
    refine hK.out _ _ ⟨HS6.out.q, HS6.out.a⟩ (fun _ => ?_)
    clear hK KK
    simp only [List.setIfInBounds_toArray, List.set_cons_zero, List.set_cons_succ]
    refine wpAnyH_take (i := 8) (v := .pointer (some ⟨bp, o, none⟩)) rfl (by kernel_rfl) (by kernel_rfl) (by kernel_rfl) (fun _ _ _ h => h) (Or.inl ⟨by rfl, fun u hu => by (go_simp)⟩) ⟨HS6.out.q, HS6.out.a⟩ ?_
    simp only [List.getElem_toArray, List.getElem_cons_succ, List.getElem_cons_zero, Act.put, List.setIfInBounds_toArray, List.set_cons_zero, List.set_cons_succ]
    refine wpAnyH_take (i := 9) (v := .pointer (some ⟨bp, o + 1, none⟩)) rfl (by kernel_rfl) (by kernel_rfl) (by kernel_rfl) (fun _ _ _ h => h) (Or.inl ⟨by rfl, fun u hu => by (go_simp)⟩) ⟨HS6.out.q, HS6.out.a⟩ ?_
    simp only [List.getElem_toArray, List.getElem_cons_succ, List.getElem_cons_zero, Act.put, List.setIfInBounds_toArray, List.set_cons_zero, List.set_cons_succ]
    have p1 := HS6.out.p.cell HC.out.2.1 1 (by omega)
    rw [HO.out] at p1
    have f1 := HS6.out.p.free (o + 1)
    refine wpAnyH_ready (rs := [10]) (by kernel_rfl) (by simp) ?_
    refine AllReadyH.cons rfl (fun KK hK => ?_) AllReadyH.nil
    go_simp
    have HS7 := Lib.hid (HO.out ▸ HS6.out.put i 1 (by omega) (.iface 259 (.pointer (some ⟨x, 0, none⟩))) : NxS w B bp K qb ab C ⟨0, v⟩ r v0 (rowS row4 i 1 (.iface 259 (.pointer (some ⟨x, 0, none⟩)))) (u1.setCell ⟨bp, o + 1, none⟩ (.iface 259 (.pointer (some ⟨x, 0, none⟩)))))
    refine hK.out _ _ ⟨HS7.out.q, HS7.out.a⟩ (fun _ => ?_)
    clear hK KK
    simp only [List.setIfInBounds_toArray, List.set_cons_zero, List.set_cons_succ]
    have HM7 := Lib.hid (show MO (u1.setCell ⟨bp, o + 1, none⟩ (.iface 259 (.pointer (some ⟨x, 0, none⟩)))) x (.push (fraP 0 C v)) from HM6.out.1.offP HS6.out.p (by decide) (by decide) (by decide) _)
    clear p1 f1 HS6
    generalize u1.setCell ⟨bp, o + 1, none⟩ (.iface 259 (.pointer (some ⟨x, 0, none⟩))) = u2 at *
    refine wpAnyH_take (i := 11) (v := .pointer (some ⟨bp, o, none⟩)) rfl (by kernel_rfl) (by kernel_rfl) (by kernel_rfl) (fun _ _ _ h => h) (Or.inl ⟨by rfl, fun u hu => by (go_simp)⟩) ⟨HS7.out.q, HS7.out.a⟩ ?_
    simp only [List.getElem_toArray, List.getElem_cons_succ, List.getElem_cons_zero, Act.put, List.setIfInBounds_toArray, List.set_cons_zero, List.set_cons_succ]
    refine wpAnyH_take (i := 12) (v := .pointer (some ⟨bp, o + 2, none⟩)) rfl (by kernel_rfl) (by kernel_rfl) (by kernel_rfl) (fun _ _ _ h => h) (Or.inl ⟨by rfl, fun u hu => by (go_simp)⟩) ⟨HS7.out.q, HS7.out.a⟩ ?_
    simp only [List.getElem_toArray, List.getElem_cons_succ, List.getElem_cons_zero, Act.put, List.setIfInBounds_toArray, List.set_cons_zero, List.set_cons_succ]
    refine wpAnyH_take (i := 13) (v := .pointer (some ⟨bp, o + 7, none⟩)) rfl (by kernel_rfl) (by kernel_rfl) (by kernel_rfl) (fun _ _ _ h => h) (Or.inl ⟨by rfl, fun u hu => by (go_simp)⟩) ⟨HS7.out.q, HS7.out.a⟩ ?_
    simp only [List.getElem_toArray, List.getElem_cons_succ, List.getElem_cons_zero, Act.put, List.setIfInBounds_toArray, List.set_cons_zero, List.set_cons_succ]
    have p7 := HS7.out.p.cell HC.out.2.1 7 (by omega)
    rw [HO.out] at p7
    have f7 := HS7.out.p.free (o + 7)
    refine wpAnyH_ready (rs := [14]) (by kernel_rfl) (by simp) ?_
    refine AllReadyH.cons rfl (fun KK hK => ?_) AllReadyH.nil
    go_simp
    have HS8 := Lib.hid (HO.out ▸ HS7.out.put i 7 (by omega) (.int .i64 v) : NxS w B bp K qb ab C ⟨0, v⟩ r v0 (rowS (rowS row4 i 1 (.iface 259 (.pointer (some ⟨x, 0, none⟩)))) i 7 (.int .i64 v)) (u2.setCell ⟨bp, o + 7, none⟩ (.int .i64 v)))
    refine hK.out _ _ ⟨HS8.out.q, HS8.out.a⟩ (fun _ => ?_)
    clear hK KK
    simp only [List.setIfInBounds_toArray, List.set_cons_zero, List.set_cons_succ]
    have HM8 := Lib.hid (show MO (u2.setCell ⟨bp, o + 7, none⟩ (.int .i64 v)) x (.push (fraP 0 C v)) from HM7.out.offP HS7.out.p (by decide) (by decide) (by decide) _)
    clear p7 f7 HS7 HM7
    generalize u2.setCell ⟨bp, o + 7, none⟩ (.int .i64 v) = u3 at *
    refine wpAnyH_done (by kernel_rfl) ?_ _
    go_wp2_with fail
    go_end0
    refine ⟨x, v0, _, rfl, HS8.out.c, HM8.out, HM6.out.2, HS8.out.f, HS8.out.p, ?_, ?_, ?_, rowS_at .., fun b c h => ?_⟩
    · rw [rowS_ne _ _ _ _ (by omega), rowS_ne _ _ _ _ (by omega)]; exact HROW.out.1
    · rw [rowS_ne _ _ _ _ (by omega), rowS_at]; rfl
    · rw [rowS_ne _ _ _ _ (by omega), rowS_ne _ _ _ _ (by omega)]; exact HROW.out.2.1
    · rw [rowS_ne _ _ _ _ (by omega), rowS_ne _ _ _ _ (by omega)]; exact HROW.out.2.2.2 b c (by omega)
  · subst hk
    go_upto_region 8 with fail
    clear a0
    go_wp2_with (refine wpList_load_row rfl 91 (.tmp 3) rfl qb rfl 91 (qcells 0 1 2 C) (0, 0) _ S4.out.q Tryz.underlying91 rfl (by kernel_rfl) ?_)
    (with_reducible refine (madePop C HC.out.1 _).mono ?_)
    rintro e u1 ⟨x, rfl, hmo, hx, hb1⟩
    have HS6 := Lib.hid (S4.out.below hb1)
    have HM6 := Lib.hid (And.intro hmo (Nat.le_trans HZ4.out hx))
    clear hmo hx hb1 S4 HZ4
    have p1 := HS6.out.p.cell HC.out.2.1 1 (by omega)
    rw [HO.out] at p1
    have f1 := HS6.out.p.free (o + 1)
    go_wp2_with fail
    go_end0
    have HS7 := Lib.hid (HO.out ▸ HS6.out.put i 1 (by omega) (.iface 265 (.pointer (some ⟨x, 0, none⟩))) : NxS w B bp K qb ab C ⟨1, v⟩ r v0 (rowS row4 i 1 (.iface 265 (.pointer (some ⟨x, 0, none⟩)))) (u1.setCell ⟨bp, o + 1, none⟩ (.iface 265 (.pointer (some ⟨x, 0, none⟩)))))
    refine ⟨x, v0, _, rfl, HS7.out.c, HM6.out.1.offP HS6.out.p (by decide) (by decide) (by decide) _, HM6.out.2, HS7.out.f, HS7.out.p, ?_, ?_, ?_, ?_, fun b c h => ?_⟩
    · rw [rowS_ne _ _ _ _ (by omega)]; exact HROW.out.1
    · rw [rowS_at]; rfl
    · rw [rowS_ne _ _ _ _ (by omega)]; exact HROW.out.2.1
    · rw [rowS_ne _ _ _ _ (by omega)]; exact HROW.out.2.2.1
    · rw [rowS_ne _ _ _ _ (by omega)]; exact HROW.out.2.2.2 b c (by omega)
  · subst hk
    go_upto_region 10 with fail
    clear a0
    go_wp2_with (refine wpList_load_row rfl 91 (.tmp 3) rfl qb rfl 91 (qcells 0 1 2 C) (0, 0) _ S4.out.q Tryz.underlying91 rfl (by kernel_rfl) ?_)
    (with_reducible refine (madeSteal C HC.out.1 _).mono ?_)
    rintro e u1 ⟨x, rfl, hmo, hx, hb1⟩
    have HS6 := Lib.hid (S4.out.below hb1)
    have HM6 := Lib.hid (And.intro hmo (Nat.le_trans HZ4.out hx))
    clear hmo hx hb1 S4 HZ4
    have p1 := HS6.out.p.cell HC.out.2.1 1 (by omega)
    rw [HO.out] at p1
    have f1 := HS6.out.p.free (o + 1)
    go_wp2_with fail
    go_end0
    have HS7 := Lib.hid (HO.out ▸ HS6.out.put i 1 (by omega) (.iface 268 (.pointer (some ⟨x, 0, none⟩))) : NxS w B bp K qb ab C ⟨2, v⟩ r v0 (rowS row4 i 1 (.iface 268 (.pointer (some ⟨x, 0, none⟩)))) (u1.setCell ⟨bp, o + 1, none⟩ (.iface 268 (.pointer (some ⟨x, 0, none⟩)))))
    refine ⟨x, v0, _, rfl, HS7.out.c, HM6.out.1.offP HS6.out.p (by decide) (by decide) (by decide) _, HM6.out.2, HS7.out.f, HS7.out.p, ?_, ?_, ?_, ?_, fun b c h => ?_⟩
    · rw [rowS_ne _ _ _ _ (by omega)]; exact HROW.out.1
    · rw [rowS_at]; rfl
    · rw [rowS_ne _ _ _ _ (by omega)]; exact HROW.out.2.1
    · rw [rowS_ne _ _ _ _ (by omega)]; exact HROW.out.2.2.1
    · rw [rowS_ne _ _ _ _ (by omega)]; exact HROW.out.2.2.2 b c (by omega)
end Go.Proofs.YtjehiekmlbeaeaaGreat
