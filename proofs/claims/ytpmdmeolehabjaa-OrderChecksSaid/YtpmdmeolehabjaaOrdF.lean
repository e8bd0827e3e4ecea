/-
  The reference's order: the least key, Apply.
-/
import Derived.Test.YtpmdmeolehabjaaOrdE
import Derived.Test.YtpmdmeolehabjaaLateZ
namespace Go.Proofs.Ytpmdmeolehabjaa
open Go Go.RowKit
set_option linter.unusedSimpArgs false
set_option linter.unusedVariables false

/-- Block x, from B on, is the reference's queue of the content c; v is its slice of keys. -/
structure RT (w : World) (B x : Nat) (v : Value) (c : Con) : Prop where
  blk : Blk w x 64 #[v, .int .i64 c.n]
  own : OwnG w B 68 3 v (c.ks.map kcells)
  hx : B ≤ x
theorem RT.below {w w' : World} {B x : Nat} {v : Value} {c : Con} (h : RT w B x v c) (hb : Below w.heap.size w w') : RT w' B x v c := ⟨h.blk.below hb, h.own.below hb, h.hx⟩
theorem RT.form {w : World} {B x : Nat} {v : Value} {c : Con} (h : RT w B x v c) : ∃ a cap, v = .slice a c.ks.length cap ∧ c.ks.length ≤ cap ∧ ∀ i, i < c.ks.length → ∃ g, a = some ⟨g, 0, none⟩ ∧ w.cell? ⟨g, i * 3, none⟩ = some (.int .i64 (c.ks.getD i zk).d) ∧ w.cell? ⟨g, i * 3 + 1, none⟩ = some (.int .i64 (c.ks.getD i zk).a) ∧ w.cell? ⟨g, i * 3 + 2, none⟩ = some (.int .i64 (c.ks.getD i zk).t) := by
  obtain ⟨a, cap, e, hc, hI⟩ := h.own.inG
  rw [List.length_map] at e hc
  refine ⟨a, cap, e, hc, fun i hi => ?_⟩
  obtain ⟨y, hy, _, hcell⟩ := hI.2.2 i (by rw [List.length_map]; exact hi)
  obtain ⟨g, cap2, cur, e2, _⟩ := h.own.blk (by intro e0; rw [List.map_eq_nil_iff] at e0; rw [e0] at hi; exact absurd hi (by simp))
  rw [e] at e2
  simp only [Value.slice.injEq] at e2
  have ea : a = some ⟨g, 0, none⟩ := e2.1
  subst ea
  simp only [Option.some.injEq] at hy
  subst hy
  have hrow : ((c.ks.map kcells).getD i []) = kcells (c.ks.getD i zk) := by
    rw [List.getD_eq_getElem?_getD, List.getElem?_map, List.getElem?_eq_getElem hi, List.getD_eq_getElem?_getD, List.getElem?_eq_getElem hi]
    rfl
  have ad : ∀ j, (⟨g, 0, none⟩ : Addr).add j = ⟨g, j, none⟩ := fun j => by
    unfold Addr.add
    split
    · rename_i h0
      rw [h0]
    · simp
  have h0 := hcell 0 (by omega)
  have h1 := hcell 1 (by omega)
  have h2 := hcell 2 (by omega)
  rw [hrow, ad] at h0 h1 h2
  exact ⟨g, rfl, h0, h1, h2⟩
set_option maxHeartbeats 4000000 in
theorem rlst_any {w : World} {B x : Nat} {v : Value} {k : Con} (h : RT w B x v k) (hm : k.ks.length ≤ 1000) (hp : 0 < k.ks.length) :
    Calls Try.prog 26 #[.pointer (some ⟨x, 0, none⟩)] w fun e w' => e = .returned (.int .i64 (lstO k.ks)) ∧ Below w.heap.size w w' := by
  obtain ⟨a, cap, rfl, hc, hcell⟩ := h.form
  have x0 := h.blk.at_ 0
  have H := Lib.hid h
  have HC := Lib.hid hcell
  have hx := h.blk.lt
  obtain ⟨n, hn⟩ : ∃ n, k.ks.length = n := ⟨_, rfl⟩
  have HN := Lib.hid hn
  rw [hn] at x0 hc hm hp
  unfold lstO
  rw [hn]
  clear h hcell hn
  go_enter Try.func26, Try.ntmps26
  go_wp2_with fail
  go_loopw [3, 4] (fun v3 v4 wr => ∃ m : Nat, v4 = .int .i64 m ∧ (1 ≤ m ∧ m ≤ n) ∧ v3 = .int .i64 (leastO k.ks m) ∧ Below w.heap.size w wr) (fun _ v _ => n - (intOf v).toNat)
  case atStart => exact ⟨1, rfl, ⟨Nat.le_refl _, hp⟩, by rw [leastO_one]; rfl, Below.refl _ _⟩
  case round =>
    obtain ⟨m, rfl, ⟨hm1, hmn⟩, rfl, hb⟩ := hrel
    have HB := Lib.hid hb
    clear hb
    have cx : wr.cell? ⟨x, 0, none⟩ = some (.slice a n cap) := (HB.out.cell hx).trans x0
    by_cases hlt : m < n
    · have hk := HN.out
      obtain ⟨g, rfl, c0, c1, c2⟩ := HC.out m (by omega)
      obtain ⟨g', e', l0, l1, l2⟩ := HC.out (leastO k.ks m) (by have := leastO_le k.ks m; omega)
      simp only [Option.some.injEq, Addr.mk.injEq, and_true] at e'
      subst e'
      have hl := leastO_le k.ks m
      have hS := Lib.hid (show leastO k.ks (m + 1) = if ltO (k.ks.getD m zk) (k.ks.getD (leastO k.ks m) zk) = true then m else leastO k.ks m from rfl)
      obtain ⟨j, hj⟩ : ∃ j, leastO k.ks m = j := ⟨_, rfl⟩
      rw [hj] at hS l0 l1 l2 hl ⊢
      clear hj
      generalize hU : k.ks.getD m zk = U at *
      generalize hV : k.ks.getD j zk = V at *
      clear hU hV hk
      have gl : g < w.heap.size := World.block_lt_of_cell? _ _ c0
      have d0 := (HB.out.cell (p := ⟨g, m * 3, none⟩) gl).trans c0
      have d1 := (HB.out.cell (p := ⟨g, m * 3 + 1, none⟩) gl).trans c1
      have d2 := (HB.out.cell (p := ⟨g, m * 3 + 2, none⟩) gl).trans c2
      have e0 := (HB.out.cell (p := ⟨g, j * 3, none⟩) gl).trans l0
      have e1 := (HB.out.cell (p := ⟨g, j * 3 + 1, none⟩) gl).trans l1
      have e2 := (HB.out.cell (p := ⟨g, j * 3 + 2, none⟩) gl).trans l2
      have hjn : j < n := by omega
      have i0 : (0 : Int) ≤ (m : Int) := by omega
      have i1 : (m : Int) < (n : Int) := by omega
      have j0 : (0 : Int) ≤ (j : Int) := by omega
      have j1 : (j : Int) < (n : Int) := by omega
      clear c0 c1 c2 l0 l1 l2
      go_wp2_with fail
      -- REGION 5
      have glr : g < wr.heap.size := World.block_lt_of_cell? _ _ d0
      have xlr : x < wr.heap.size := World.block_lt_of_cell? _ _ cx
      have hS0 : Below wr.heap.size wr wr.drew := below_drew (Below.refl _ _)
      refine wp_region_late (S := (fun u => Below wr.heap.size wr u)) (z := 17) (by kernel_rfl) ?_
      change wpAnyZ _ _ _ _ 17 18 #[false, false, false, false, false, false, false, false, false, false, false, false, false, false, false, false, false, false] _ (World.drew _)
      refine wpAnyZ.take (i := 0) (v := .pointer (some ⟨x, 0, none⟩)) rfl (by kernel_rfl) (by kernel_rfl) (by kernel_rfl) (by kernel_rfl) (by kernel_rfl) (fun _ _ _ h => h) (Or.inl ⟨by rfl, fun u hu => by (go_simp)⟩) hS0 ?_
      simp only [List.getElem_toArray, List.getElem_cons_succ, List.getElem_cons_zero, Act.put, List.setIfInBounds_toArray, List.set_cons_zero, List.set_cons_succ]
      refine wpAnyZ.take (i := 1) (v := .pointer (some ⟨x, 0, none⟩)) rfl (by kernel_rfl) (by kernel_rfl) (by kernel_rfl) (by kernel_rfl) (by kernel_rfl) (fun _ _ _ h => h) (Or.inl ⟨by rfl, fun u hu => by (go_simp)⟩) hS0 ?_
      simp only [List.getElem_toArray, List.getElem_cons_succ, List.getElem_cons_zero, Act.put, List.setIfInBounds_toArray, List.set_cons_zero, List.set_cons_succ]
      refine wpAnyZ.take (i := 2) (v := .pointer (some ⟨x, 0, none⟩)) rfl (by kernel_rfl) (by kernel_rfl) (by kernel_rfl) (by kernel_rfl) (by kernel_rfl) (fun _ _ _ h => h) (Or.inl ⟨by rfl, fun u hu => by (go_simp)⟩) hS0 ?_
      simp only [List.getElem_toArray, List.getElem_cons_succ, List.getElem_cons_zero, Act.put, List.setIfInBounds_toArray, List.set_cons_zero, List.set_cons_succ]
      refine wpAnyZ.take (i := 3) (v := .slice (some ⟨g, 0, none⟩) n cap) rfl (by kernel_rfl) (by kernel_rfl) (by kernel_rfl) (by kernel_rfl) (by kernel_rfl) (fun _ _ _ h => h) (Or.inl ⟨by rfl, fun u hu => by (have z0 := (hu.cell (p := ⟨x, 0, none⟩) xlr).trans cx; go_simp)⟩) hS0 ?_
      simp only [List.getElem_toArray, List.getElem_cons_succ, List.getElem_cons_zero, Act.put, List.setIfInBounds_toArray, List.set_cons_zero, List.set_cons_succ]
      refine wpAnyZ.take (i := 4) (v := .int .i64 m) rfl (by kernel_rfl) (by kernel_rfl) (by kernel_rfl) (by kernel_rfl) (by kernel_rfl) (fun _ _ _ h => h) (Or.inl ⟨by rfl, fun u hu => by (go_simp)⟩) hS0 ?_
      simp only [List.getElem_toArray, List.getElem_cons_succ, List.getElem_cons_zero, Act.put, List.setIfInBounds_toArray, List.set_cons_zero, List.set_cons_succ]
      refine wpAnyZ.take (i := 5) (v := .pointer (some ⟨g, m * 3, none⟩)) rfl (by kernel_rfl) (by kernel_rfl) (by kernel_rfl) (by kernel_rfl) (by kernel_rfl) (fun _ _ _ h => h) (Or.inl ⟨by rfl, fun u hu => by (go_simp)⟩) hS0 ?_
      simp only [List.getElem_toArray, List.getElem_cons_succ, List.getElem_cons_zero, Act.put, List.setIfInBounds_toArray, List.set_cons_zero, List.set_cons_succ]
      refine wpAnyZ.take (i := 6) (v := .agg #[.int .i64 U.d, .int .i64 U.a, .int .i64 U.t]) rfl (by kernel_rfl) (by kernel_rfl) (by kernel_rfl) (by kernel_rfl) (by kernel_rfl) (fun _ _ _ h => h) (Or.inl ⟨by rfl, fun u hu => by (have z0 := (hu.cell (p := ⟨g, m * 3, none⟩) glr).trans d0; have z1 := (hu.cell (p := ⟨g, m * 3 + 1, none⟩) glr).trans d1; have z2 := (hu.cell (p := ⟨g, m * 3 + 2, none⟩) glr).trans d2; go_simp)⟩) hS0 ?_
      simp only [List.getElem_toArray, List.getElem_cons_succ, List.getElem_cons_zero, Act.put, List.setIfInBounds_toArray, List.set_cons_zero, List.set_cons_succ]
      refine wpAnyZ.take (i := 7) (v := .pointer (some ⟨x, 0, none⟩)) rfl (by kernel_rfl) (by kernel_rfl) (by kernel_rfl) (by kernel_rfl) (by kernel_rfl) (fun _ _ _ h => h) (Or.inl ⟨by rfl, fun u hu => by (go_simp)⟩) hS0 ?_
      simp only [List.getElem_toArray, List.getElem_cons_succ, List.getElem_cons_zero, Act.put, List.setIfInBounds_toArray, List.set_cons_zero, List.set_cons_succ]
      refine wpAnyZ.take (i := 8) (v := .pointer (some ⟨x, 0, none⟩)) rfl (by kernel_rfl) (by kernel_rfl) (by kernel_rfl) (by kernel_rfl) (by kernel_rfl) (fun _ _ _ h => h) (Or.inl ⟨by rfl, fun u hu => by (go_simp)⟩) hS0 ?_
      simp only [List.getElem_toArray, List.getElem_cons_succ, List.getElem_cons_zero, Act.put, List.setIfInBounds_toArray, List.set_cons_zero, List.set_cons_succ]
      refine wpAnyZ.take (i := 9) (v := .pointer (some ⟨x, 0, none⟩)) rfl (by kernel_rfl) (by kernel_rfl) (by kernel_rfl) (by kernel_rfl) (by kernel_rfl) (fun _ _ _ h => h) (Or.inl ⟨by rfl, fun u hu => by (go_simp)⟩) hS0 ?_
      simp only [List.getElem_toArray, List.getElem_cons_succ, List.getElem_cons_zero, Act.put, List.setIfInBounds_toArray, List.set_cons_zero, List.set_cons_succ]
      refine wpAnyZ.take (i := 10) (v := .slice (some ⟨g, 0, none⟩) n cap) rfl (by kernel_rfl) (by kernel_rfl) (by kernel_rfl) (by kernel_rfl) (by kernel_rfl) (fun _ _ _ h => h) (Or.inl ⟨by rfl, fun u hu => by (have z0 := (hu.cell (p := ⟨x, 0, none⟩) xlr).trans cx; go_simp)⟩) hS0 ?_
      simp only [List.getElem_toArray, List.getElem_cons_succ, List.getElem_cons_zero, Act.put, List.setIfInBounds_toArray, List.set_cons_zero, List.set_cons_succ]
      refine wpAnyZ.take (i := 11) (v := .int .i64 j) rfl (by kernel_rfl) (by kernel_rfl) (by kernel_rfl) (by kernel_rfl) (by kernel_rfl) (fun _ _ _ h => h) (Or.inl ⟨by rfl, fun u hu => by (go_simp)⟩) hS0 ?_
      simp only [List.getElem_toArray, List.getElem_cons_succ, List.getElem_cons_zero, Act.put, List.setIfInBounds_toArray, List.set_cons_zero, List.set_cons_succ]
      refine wpAnyZ.take (i := 12) (v := .pointer (some ⟨g, j * 3, none⟩)) rfl (by kernel_rfl) (by kernel_rfl) (by kernel_rfl) (by kernel_rfl) (by kernel_rfl) (fun _ _ _ h => h) (Or.inl ⟨by rfl, fun u hu => by (go_simp)⟩) hS0 ?_
      simp only [List.getElem_toArray, List.getElem_cons_succ, List.getElem_cons_zero, Act.put, List.setIfInBounds_toArray, List.set_cons_zero, List.set_cons_succ]
      refine wpAnyZ.take (i := 13) (v := .agg #[.int .i64 V.d, .int .i64 V.a, .int .i64 V.t]) rfl (by kernel_rfl) (by kernel_rfl) (by kernel_rfl) (by kernel_rfl) (by kernel_rfl) (fun _ _ _ h => h) (Or.inl ⟨by rfl, fun u hu => by (have z0 := (hu.cell (p := ⟨g, j * 3, none⟩) glr).trans e0; have z1 := (hu.cell (p := ⟨g, j * 3 + 1, none⟩) glr).trans e1; have z2 := (hu.cell (p := ⟨g, j * 3 + 2, none⟩) glr).trans e2; go_simp)⟩) hS0 ?_
      simp only [List.getElem_toArray, List.getElem_cons_succ, List.getElem_cons_zero, Act.put, List.setIfInBounds_toArray, List.set_cons_zero, List.set_cons_succ]
      refine wpAnyZ.ready (rs := [14, 15]) (by kernel_rfl) (by simp) ?_
      refine AllZ.cons rfl (fun K hK => ?_) (AllZ.cons rfl (fun K hK => ?_) AllZ.nil)
      · go_simp
        have hA := below_one wr (.cells #[.int .i64 0, .int .i64 0, .int .i64 0] 68)
        have hS1 : Below wr.heap.size wr (wr.alloc (.cells #[.int .i64 0, .int .i64 0, .int .i64 0] 68)).drew := below_drew hA
        have m1 := Blk.made wr 68 #[.int .i64 0, .int .i64 0, .int .i64 0]
        have z1 : (wr.alloc (.cells #[.int .i64 0, .int .i64 0, .int .i64 0] 68)).heap.size = wr.heap.size + 1 := World.size_alloc _ _
        refine hK.out _ _ (fun _ => hS1) (fun _ => ?_)
        clear hK K
        simp only [List.setIfInBounds_toArray, List.set_cons_zero, List.set_cons_succ]
        have hA2 := below_one (wr.alloc (.cells #[.int .i64 0, .int .i64 0, .int .i64 0] 68)) (.cells #[.int .i64 0, .int .i64 0, .int .i64 0] 68)
        have hS2 : Below wr.heap.size wr ((wr.alloc (.cells #[.int .i64 0, .int .i64 0, .int .i64 0] 68)).alloc (.cells #[.int .i64 0, .int .i64 0, .int .i64 0] 68)).drew := below_drew (hA.trans (hA2.mono hA.size))
        have m2 := Blk.made (wr.alloc (.cells #[.int .i64 0, .int .i64 0, .int .i64 0] 68)) 68 #[.int .i64 0, .int .i64 0, .int .i64 0]
        have m1' := m1.below hA2
        rw [z1] at m2
        refine wpAnyZ.ready (rs := [15]) (by kernel_rfl) (by simp) ?_
        refine AllZ.cons rfl (fun K hK => ?_) AllZ.nil
        go_simp
        refine hK.out _ _ (fun _ => hS2) (fun _ => ?_)
        clear hK K
        simp only [List.setIfInBounds_toArray, List.set_cons_zero, List.set_cons_succ]
        have HA5 := Lib.hid (show Blk ((wr.alloc (.cells #[.int .i64 0, .int .i64 0, .int .i64 0] 68)).alloc (.cells #[.int .i64 0, .int .i64 0, .int .i64 0] 68)).drew (wr.heap.size) 68 #[.int .i64 0, .int .i64 0, .int .i64 0] from m1')
        have HA6 := Lib.hid (show Blk ((wr.alloc (.cells #[.int .i64 0, .int .i64 0, .int .i64 0] 68)).alloc (.cells #[.int .i64 0, .int .i64 0, .int .i64 0] 68)).drew (wr.heap.size + 1) 68 #[.int .i64 0, .int .i64 0, .int .i64 0] from m2)
        clear m1 m2 m1' hA hA2 hS1
        generalize ((wr.alloc (.cells #[.int .i64 0, .int .i64 0, .int .i64 0] 68)).alloc (.cells #[.int .i64 0, .int .i64 0, .int .i64 0] 68)).drew = W2 at *
        have HP := Lib.hid (show wr.heap.size ≤ wr.heap.size ∧ wr.heap.size ≤ wr.heap.size + 1 ∧ wr.heap.size ≠ wr.heap.size + 1 by omega)
        generalize hq1 : wr.heap.size + 1 = q1 at *
        clear hq1 z1
        refine wpAnyZ.ready (rs := [16]) (by kernel_rfl) (by simp) ?_
        refine AllZ.cons rfl (fun K hK => ?_) AllZ.nil
        rw [if_pos (show Region.wanted _ _ = true by rfl)]
        refine wp_store_row 68 (.tmp 5) (.tmp 22) rfl wr.heap.size #[.int .i64 U.d, .int .i64 U.a, .int .i64 U.t] rfl rfl 68 #[.int .i64 0, .int .i64 0, .int .i64 0] HA5.out (by kernel_rfl) rfl (by kernel_rfl) ?_
        have hf16 : Fr [wr.heap.size] W2 (W2.setRow wr.heap.size #[.int .i64 U.d, .int .i64 U.a, .int .i64 U.t]) := ⟨rfl, rfl, rfl, by rw [size_setRow]; exact Nat.le_refl _, fun q _ hn => setRow_other W2 wr.heap.size q _ (fun e => hn (by simp [e]))⟩
        have hS3 : Below wr.heap.size wr (W2.setRow wr.heap.size #[.int .i64 U.d, .int .i64 U.a, .int .i64 U.t]) := hS2.trans (hf16.below hS2.size (fun q hq => by simp at hq; have := HP.out; omega))
        have HN5 := Lib.hid (show Blk (W2.setRow wr.heap.size #[.int .i64 U.d, .int .i64 U.a, .int .i64 U.t]) (wr.heap.size) 68 #[.int .i64 U.d, .int .i64 U.a, .int .i64 U.t] from setRow_heap _ _ _ _ _ _ HA5.out)
        have HA6' := Lib.hid (HA6.out.of_same (hf16.block _ HA6.out.lt (by simp; have := HP.out; omega)))
        refine hK.out _ _ (fun _ => hS3) (fun _ => ?_)
        clear hK K
        simp only [List.setIfInBounds_toArray, List.set_cons_zero, List.set_cons_succ]
        clear hf16
        generalize W2.setRow wr.heap.size #[.int .i64 U.d, .int .i64 U.a, .int .i64 U.t] = W3 at *
        refine wpAnyZ.ready (rs := [17]) (by kernel_rfl) (by simp) ?_
        refine AllZ.cons rfl (fun K hK => ?_) AllZ.nil
        rw [if_pos (show Region.wanted _ _ = true by rfl)]
        refine wp_store_row 68 (.tmp 6) (.tmp 29) rfl q1 #[.int .i64 V.d, .int .i64 V.a, .int .i64 V.t] rfl rfl 68 #[.int .i64 0, .int .i64 0, .int .i64 0] HA6'.out (by kernel_rfl) rfl (by kernel_rfl) ?_
        have hf17 : Fr [q1] W3 (W3.setRow q1 #[.int .i64 V.d, .int .i64 V.a, .int .i64 V.t]) := ⟨rfl, rfl, rfl, by rw [size_setRow]; exact Nat.le_refl _, fun q _ hn => setRow_other W3 q1 q _ (fun e => hn (by simp [e]))⟩
        have hS4 : Below wr.heap.size wr (W3.setRow q1 #[.int .i64 V.d, .int .i64 V.a, .int .i64 V.t]) := hS3.trans (hf17.below hS3.size (fun q hq => by simp at hq; have := HP.out; omega))
        have HN6 := Lib.hid (show Blk (W3.setRow q1 #[.int .i64 V.d, .int .i64 V.a, .int .i64 V.t]) (q1) 68 #[.int .i64 V.d, .int .i64 V.a, .int .i64 V.t] from setRow_heap _ _ _ _ _ _ HA6'.out)
        have HN5' := Lib.hid (HN5.out.of_same (hf17.block _ HN5.out.lt (by simp; have := HP.out; omega)))
        refine hK.out _ _ (fun h => absurd rfl h) (fun _ => ?_)
        clear hK K
        simp only [List.setIfInBounds_toArray, List.set_cons_zero, List.set_cons_succ]
        clear hf17
        generalize W3.setRow q1 #[.int .i64 V.d, .int .i64 V.a, .int .i64 V.t] = W4 at *
        refine wpAnyZ.done (by kernel_rfl) ?_ _
        have y0 := HN5'.out.at_ 0
        have y1 := HN5'.out.at_ 1
        have w0 := HN6.out.at_ 0
        have w1 := HN6.out.at_ 1
        have HB4 := Lib.hid (HB.out.trans (hS4.mono HB.out.size))
        clear cx d0 d1 d2 e0 e1 e2 hS0 hS2 hS3 hS4
        by_cases hd : U.d = V.d
        · have b1 : decide (U.d < V.d) = false := decide_eq_false (by omega)
          have b2 : (U.d == V.d) = true := beq_iff_eq.2 hd
          have hR : ltO U V = decide (U.a < V.a) := by simp [ltO, hd]
          rw [hR] at hS
          have HD := Lib.hid hd
          clear hd hR
          by_cases hx2 : U.a < V.a
          · have b3 : decide (U.a < V.a) = true := decide_eq_true hx2
            have hs := hS.out
            rw [b3, if_pos rfl] at hs
            have HS := Lib.hid hs
            have HX2 := Lib.hid hx2
            clear hs hS hx2
            go_wp2
            go_roundw
            all_goals first
              | exact ⟨m + 1, by push_cast; rfl, by omega, by rw [HS.out], HB4.out⟩
              | (simp only [intOf]; omega)
          · have b3 : decide (U.a < V.a) = false := decide_eq_false hx2
            have hs := hS.out
            rw [b3, if_neg (by decide)] at hs
            have HS := Lib.hid hs
            have HX2 := Lib.hid hx2
            clear hs hS hx2
            go_wp2
            go_roundw
            all_goals first
              | exact ⟨m + 1, by push_cast; rfl, by omega, by rw [HS.out], HB4.out⟩
              | (simp only [intOf]; omega)
        · have b2 : (U.d == V.d) = false := beq_eq_false_iff_ne.2 hd
          have hR : ltO U V = decide (U.d < V.d) := by simp [ltO, hd]
          rw [hR] at hS
          have HD := Lib.hid hd
          clear hd hR
          by_cases hx2 : U.d < V.d
          · have b3 : decide (U.d < V.d) = true := decide_eq_true hx2
            have hs := hS.out
            rw [b3, if_pos rfl] at hs
            have HS := Lib.hid hs
            have HX2 := Lib.hid hx2
            clear hs hS hx2
            go_wp2
            go_roundw
            all_goals first
              | exact ⟨m + 1, by push_cast; rfl, by omega, by rw [HS.out], HB4.out⟩
              | (simp only [intOf]; omega)
          · have b3 : decide (U.d < V.d) = false := decide_eq_false hx2
            have hs := hS.out
            rw [b3, if_neg (by decide)] at hs
            have HS := Lib.hid hs
            have HX2 := Lib.hid hx2
            clear hs hS hx2
            go_wp2
            go_roundw
            all_goals first
              | exact ⟨m + 1, by push_cast; rfl, by omega, by rw [HS.out], HB4.out⟩
              | (simp only [intOf]; omega)
      · go_simp
        have hA := below_one wr (.cells #[.int .i64 0, .int .i64 0, .int .i64 0] 68)
        have hS1 : Below wr.heap.size wr (wr.alloc (.cells #[.int .i64 0, .int .i64 0, .int .i64 0] 68)).drew := below_drew hA
        have m1 := Blk.made wr 68 #[.int .i64 0, .int .i64 0, .int .i64 0]
        have z1 : (wr.alloc (.cells #[.int .i64 0, .int .i64 0, .int .i64 0] 68)).heap.size = wr.heap.size + 1 := World.size_alloc _ _
        refine hK.out _ _ (fun _ => hS1) (fun _ => ?_)
        clear hK K
        simp only [List.setIfInBounds_toArray, List.set_cons_zero, List.set_cons_succ]
        have hA2 := below_one (wr.alloc (.cells #[.int .i64 0, .int .i64 0, .int .i64 0] 68)) (.cells #[.int .i64 0, .int .i64 0, .int .i64 0] 68)
        have hS2 : Below wr.heap.size wr ((wr.alloc (.cells #[.int .i64 0, .int .i64 0, .int .i64 0] 68)).alloc (.cells #[.int .i64 0, .int .i64 0, .int .i64 0] 68)).drew := below_drew (hA.trans (hA2.mono hA.size))
        have m2 := Blk.made (wr.alloc (.cells #[.int .i64 0, .int .i64 0, .int .i64 0] 68)) 68 #[.int .i64 0, .int .i64 0, .int .i64 0]
        have m1' := m1.below hA2
        rw [z1] at m2
        refine wpAnyZ.ready (rs := [14]) (by kernel_rfl) (by simp) ?_
        refine AllZ.cons rfl (fun K hK => ?_) AllZ.nil
        go_simp
        refine hK.out _ _ (fun _ => hS2) (fun _ => ?_)
        clear hK K
        simp only [List.setIfInBounds_toArray, List.set_cons_zero, List.set_cons_succ]
        have HA5 := Lib.hid (show Blk ((wr.alloc (.cells #[.int .i64 0, .int .i64 0, .int .i64 0] 68)).alloc (.cells #[.int .i64 0, .int .i64 0, .int .i64 0] 68)).drew (wr.heap.size + 1) 68 #[.int .i64 0, .int .i64 0, .int .i64 0] from m2)
        have HA6 := Lib.hid (show Blk ((wr.alloc (.cells #[.int .i64 0, .int .i64 0, .int .i64 0] 68)).alloc (.cells #[.int .i64 0, .int .i64 0, .int .i64 0] 68)).drew (wr.heap.size) 68 #[.int .i64 0, .int .i64 0, .int .i64 0] from m1')
        clear m1 m2 m1' hA hA2 hS1
        generalize ((wr.alloc (.cells #[.int .i64 0, .int .i64 0, .int .i64 0] 68)).alloc (.cells #[.int .i64 0, .int .i64 0, .int .i64 0] 68)).drew = W2 at *
        have HP := Lib.hid (show wr.heap.size ≤ wr.heap.size ∧ wr.heap.size ≤ wr.heap.size + 1 ∧ wr.heap.size ≠ wr.heap.size + 1 by omega)
        generalize hq1 : wr.heap.size + 1 = q1 at *
        clear hq1 z1
        refine wpAnyZ.ready (rs := [16]) (by kernel_rfl) (by simp) ?_
        refine AllZ.cons rfl (fun K hK => ?_) AllZ.nil
        rw [if_pos (show Region.wanted _ _ = true by rfl)]
        refine wp_store_row 68 (.tmp 5) (.tmp 22) rfl q1 #[.int .i64 U.d, .int .i64 U.a, .int .i64 U.t] rfl rfl 68 #[.int .i64 0, .int .i64 0, .int .i64 0] HA5.out (by kernel_rfl) rfl (by kernel_rfl) ?_
        have hf16 : Fr [q1] W2 (W2.setRow q1 #[.int .i64 U.d, .int .i64 U.a, .int .i64 U.t]) := ⟨rfl, rfl, rfl, by rw [size_setRow]; exact Nat.le_refl _, fun q _ hn => setRow_other W2 q1 q _ (fun e => hn (by simp [e]))⟩
        have hS3 : Below wr.heap.size wr (W2.setRow q1 #[.int .i64 U.d, .int .i64 U.a, .int .i64 U.t]) := hS2.trans (hf16.below hS2.size (fun q hq => by simp at hq; have := HP.out; omega))
        have HN5 := Lib.hid (show Blk (W2.setRow q1 #[.int .i64 U.d, .int .i64 U.a, .int .i64 U.t]) (q1) 68 #[.int .i64 U.d, .int .i64 U.a, .int .i64 U.t] from setRow_heap _ _ _ _ _ _ HA5.out)
        have HA6' := Lib.hid (HA6.out.of_same (hf16.block _ HA6.out.lt (by simp; have := HP.out; omega)))
        refine hK.out _ _ (fun _ => hS3) (fun _ => ?_)
        clear hK K
        simp only [List.setIfInBounds_toArray, List.set_cons_zero, List.set_cons_succ]
        clear hf16
        generalize W2.setRow q1 #[.int .i64 U.d, .int .i64 U.a, .int .i64 U.t] = W3 at *
        refine wpAnyZ.ready (rs := [17]) (by kernel_rfl) (by simp) ?_
        refine AllZ.cons rfl (fun K hK => ?_) AllZ.nil
        rw [if_pos (show Region.wanted _ _ = true by rfl)]
        refine wp_store_row 68 (.tmp 6) (.tmp 29) rfl wr.heap.size #[.int .i64 V.d, .int .i64 V.a, .int .i64 V.t] rfl rfl 68 #[.int .i64 0, .int .i64 0, .int .i64 0] HA6'.out (by kernel_rfl) rfl (by kernel_rfl) ?_
        have hf17 : Fr [wr.heap.size] W3 (W3.setRow wr.heap.size #[.int .i64 V.d, .int .i64 V.a, .int .i64 V.t]) := ⟨rfl, rfl, rfl, by rw [size_setRow]; exact Nat.le_refl _, fun q _ hn => setRow_other W3 wr.heap.size q _ (fun e => hn (by simp [e]))⟩
        have hS4 : Below wr.heap.size wr (W3.setRow wr.heap.size #[.int .i64 V.d, .int .i64 V.a, .int .i64 V.t]) := hS3.trans (hf17.below hS3.size (fun q hq => by simp at hq; have := HP.out; omega))
        have HN6 := Lib.hid (show Blk (W3.setRow wr.heap.size #[.int .i64 V.d, .int .i64 V.a, .int .i64 V.t]) (wr.heap.size) 68 #[.int .i64 V.d, .int .i64 V.a, .int .i64 V.t] from setRow_heap _ _ _ _ _ _ HA6'.out)
        have HN5' := Lib.hid (HN5.out.of_same (hf17.block _ HN5.out.lt (by simp; have := HP.out; omega)))
        refine hK.out _ _ (fun h => absurd rfl h) (fun _ => ?_)
        clear hK K
        simp only [List.setIfInBounds_toArray, List.set_cons_zero, List.set_cons_succ]
        clear hf17
        generalize W3.setRow wr.heap.size #[.int .i64 V.d, .int .i64 V.a, .int .i64 V.t] = W4 at *
        refine wpAnyZ.done (by kernel_rfl) ?_ _
        have y0 := HN5'.out.at_ 0
        have y1 := HN5'.out.at_ 1
        have w0 := HN6.out.at_ 0
        have w1 := HN6.out.at_ 1
        have HB4 := Lib.hid (HB.out.trans (hS4.mono HB.out.size))
        clear cx d0 d1 d2 e0 e1 e2 hS0 hS2 hS3 hS4
        by_cases hd : U.d = V.d
        · have b1 : decide (U.d < V.d) = false := decide_eq_false (by omega)
          have b2 : (U.d == V.d) = true := beq_iff_eq.2 hd
          have hR : ltO U V = decide (U.a < V.a) := by simp [ltO, hd]
          rw [hR] at hS
          have HD := Lib.hid hd
          clear hd hR
          by_cases hx2 : U.a < V.a
          · have b3 : decide (U.a < V.a) = true := decide_eq_true hx2
            have hs := hS.out
            rw [b3, if_pos rfl] at hs
            have HS := Lib.hid hs
            have HX2 := Lib.hid hx2
            clear hs hS hx2
            go_wp2
            go_roundw
            all_goals first
              | exact ⟨m + 1, by push_cast; rfl, by omega, by rw [HS.out], HB4.out⟩
              | (simp only [intOf]; omega)
          · have b3 : decide (U.a < V.a) = false := decide_eq_false hx2
            have hs := hS.out
            rw [b3, if_neg (by decide)] at hs
            have HS := Lib.hid hs
            have HX2 := Lib.hid hx2
            clear hs hS hx2
            go_wp2
            go_roundw
            all_goals first
              | exact ⟨m + 1, by push_cast; rfl, by omega, by rw [HS.out], HB4.out⟩
              | (simp only [intOf]; omega)
        · have b2 : (U.d == V.d) = false := beq_eq_false_iff_ne.2 hd
          have hR : ltO U V = decide (U.d < V.d) := by simp [ltO, hd]
          rw [hR] at hS
          have HD := Lib.hid hd
          clear hd hR
          by_cases hx2 : U.d < V.d
          · have b3 : decide (U.d < V.d) = true := decide_eq_true hx2
            have hs := hS.out
            rw [b3, if_pos rfl] at hs
            have HS := Lib.hid hs
            have HX2 := Lib.hid hx2
            clear hs hS hx2
            go_wp2
            go_roundw
            all_goals first
              | exact ⟨m + 1, by push_cast; rfl, by omega, by rw [HS.out], HB4.out⟩
              | (simp only [intOf]; omega)
          · have b3 : decide (U.d < V.d) = false := decide_eq_false hx2
            have hs := hS.out
            rw [b3, if_neg (by decide)] at hs
            have HS := Lib.hid hs
            have HX2 := Lib.hid hx2
            clear hs hS hx2
            go_wp2
            go_roundw
            all_goals first
              | exact ⟨m + 1, by push_cast; rfl, by omega, by rw [HS.out], HB4.out⟩
              | (simp only [intOf]; omega)
      -- REGION 5 ENDS
    · have hmn2 : m = n := by omega
      subst hmn2
      go_wp2
      go_ret
      exact ⟨rfl, HB.out⟩
end Go.Proofs.Ytpmdmeolehabjaa
