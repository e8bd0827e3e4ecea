/-
  Contract of the program's Equal. (Written by wip/gen_cfequal.py.)
-/
import Derived.Test.YtnpnamgeajifkaaCfEqF
import Derived.Deep.RegionHeld
import Derived.ChangeKeysEq
namespace Go.Proofs.Ytnpnamgeajifkaa
open Go Go.RowKit
set_option linter.unusedSimpArgs false

theorem cfg_ext {c d : Cfg} : c = d ↔ (c.wo = d.wo ∧ c.le = d.le ∧ c.cl = d.cl ∧ c.ta = d.ta ∧ c.de = d.de ∧ c.he = d.he ∧ c.ba = d.ba ∧ c.ag = d.ag ∧ c.pa = d.pa) ∧ c.pr = d.pr ∧ c.su = d.su := by
  obtain ⟨a0, a1, a2, a3, a4, a5, a6, a7, a8, a9, a10⟩ := c
  obtain ⟨b0, b1, b2, b3, b4, b5, b6, b7, b8, b9, b10⟩ := d
  simp only [Cfg.mk.injEq, and_assoc]

theorem eq_int (k : Nat) (x y : Int) (u : World) : (Op.equalIn (k + 1) 3 (.int .i64 x) (.int .i64 y)).run Try.prog u = .ok (x == y) u := by
  simp [Op.equalIn, run_underlying Try.underlying3]
theorem eqItems_ints (k : Nat) (xs ys : List Int) (u : World) : ∀ is : List Nat, (∀ i ∈ is, i < xs.length ∧ i < ys.length) →
    (Op.eqItems (k + 1) 3 (Try.prog.cellsOf 3) (xs.map (Value.int .i64)).toArray (ys.map (Value.int .i64)).toArray is).run Try.prog u = .ok (is.all fun i => xs.getD i 0 == ys.getD i 0) u
  | [], _ => by simp [Op.eqItems]
  | i :: is, h => by
    have hp : Try.prog.plainKey 3 = true := by kernel_rfl
    have hc : Try.prog.cellsOf 3 = 1 := by kernel_rfl
    obtain ⟨h1, h2⟩ := h i (by simp)
    have ih := eqItems_ints k xs ys u is (fun j hj => h j (by simp [hj]))
    have g : ∀ zs : List Int, i < zs.length → (zs.map (Value.int .i64)).toArray[i * Try.prog.cellsOf 3]? = some (.int .i64 (zs.getD i 0)) := by
      intro zs hz
      rw [hc, Nat.mul_one]
      simp [hz]
    have p1 := run_part_plain (P := Try.prog) u hp (g xs h1)
    have p2 := run_part_plain (P := Try.prog) u hp (g ys h2)
    simp only [Op.eqItems, Sem.run_bind, p1, p2, eq_int, Result.andThen_ok, List.all_cons]
    cases hb : (xs.getD i 0 == ys.getD i 0) with
    | false => simp
    | true => simpa using ih
theorem arr_eq (c d : Cfg) (u : World) : (Op.equalIn 10000 70 (arr9 c) (arr9 d)).run Try.prog u = .ok (decide (c.wo = d.wo ∧ c.le = d.le ∧ c.cl = d.cl ∧ c.ta = d.ta ∧ c.de = d.de ∧ c.he = d.he ∧ c.ba = d.ba ∧ c.ag = d.ag ∧ c.pa = d.pa)) u := by
  obtain ⟨i, hi⟩ : ∃ i, Try.prog.info? 3 = some i := Option.isSome_iff_exists.1 (by kernel_rfl)
  have hu : Try.prog.underlying 70 = some (.array 9 3) := Try.underlying70
  rw [show (10000 : Nat) = 9999 + 1 from rfl, run_equalIn_array u 9999 _ _ hu hi]
  have h := eqItems_ints 9998 [c.wo, c.le, c.cl, c.ta, c.de, c.he, c.ba, c.ag, c.pa] [d.wo, d.le, d.cl, d.ta, d.de, d.he, d.ba, d.ag, d.pa] u (List.range 9) (by simp)
  simp only [List.map_cons, List.map_nil] at h
  refine h.trans ?_
  congr 1
  rw [Bool.eq_iff_iff, decide_eq_true_iff]
  simp [List.range, List.range.loop]

/-- Two configurations in the blocks g and h. -/
def TwoC (g : Nat) (c : Cfg) (pa : Option Addr) (pn pc : Nat) (sa : Option Addr) (sn sc : Nat) (h : Nat) (d : Cfg) (qa : Option Addr) (qn qc : Nat) (ta : Option Addr) (tn tc : Nat) (u : World) : Prop :=
  Eleven u g c pa pn pc sa sn sc ∧ Eleven u h d qa qn qc ta tn tc

set_option maxRecDepth 20000 in
set_option maxHeartbeats 4000000 in
theorem equal_any {w : World} {B B' : Nat} {c d : Cfg} {pa qa : Option Addr} {pn qn : Nat} {sa ta : Option Addr} {sn tn : Nat} (h : Lists w B c pa pn sa sn) (h' : Lists w B' d qa qn ta tn) (pc sc qc tc : Nat) :
    Calls Try.prog 20 #[cv c pa pn pc sa sn sc, cv d qa qn qc ta tn tc] w (EqGives (decide (c = d)) w) := by
  obtain ⟨t, ht⟩ : ∃ t, decide (c = d) = t := ⟨_, rfl⟩
  rw [ht]
  have HTT := Lib.hid ht
  have H1 := Lib.hid ((h.alloc (.cells (cc c pa pn pc sa sn sc) 25)).alloc (.cells (cc d qa qn qc ta tn tc) 25))
  have H1' := Lib.hid ((h'.alloc (.cells (cc c pa pn pc sa sn sc) 25)).alloc (.cells (cc d qa qn qc ta tn tc) 25))
  have X1 := Lib.hid ((Blk.made w 25 (cc c pa pn pc sa sn sc)).alloc (.cells (cc d qa qn qc ta tn tc) 25))
  have hy := Blk.made (w.alloc (.cells (cc c pa pn pc sa sn sc) 25)) 25 (cc d qa qn qc ta tn tc)
  rw [show (w.alloc (.cells (cc c pa pn pc sa sn sc) 25)).heap.size = w.heap.size + 1 by simp] at hy
  have Y1 := Lib.hid hy
  have B1 := Lib.hid ((below_one w (.cells (cc c pa pn pc sa sn sc) 25)).alloc (by simp) (.cells (cc d qa qn qc ta tn tc) 25))
  clear hy h h' ht
  obtain ⟨r, hr, hiff⟩ : ∃ r : Bool, (∀ u, (Op.equalIn 10000 70 (arr9 c) (arr9 d)).run Try.prog u = .ok r u) ∧ (r = true ↔ (c.wo = d.wo ∧ c.le = d.le ∧ c.cl = d.cl ∧ c.ta = d.ta ∧ c.de = d.de ∧ c.he = d.he ∧ c.ba = d.ba ∧ c.ag = d.ag ∧ c.pa = d.pa)) := by
    exact ⟨decide (c.wo = d.wo ∧ c.le = d.le ∧ c.cl = d.cl ∧ c.ta = d.ta ∧ c.de = d.de ∧ c.he = d.he ∧ c.ba = d.ba ∧ c.ag = d.ag ∧ c.pa = d.pa), fun u => arr_eq c d u, decide_eq_true_iff⟩
  cases r with
  | true =>
    have hall := hiff.1 rfl
    have HALL := Lib.hid hall
    clear hiff hall
    have hpq : t = (decide (c.pr = d.pr) && decide (c.su = d.su)) := by
      rw [← HTT.out, ← Bool.decide_and]
      exact decide_eq_decide.2 (cfg_ext.trans ⟨fun h => h.2, fun h => ⟨HALL.out, h⟩⟩)
    obtain ⟨b1, hb1⟩ : ∃ b, decide (c.pr = d.pr) = b := ⟨_, rfl⟩
    obtain ⟨b2, hb2⟩ : ∃ b, decide (c.su = d.su) = b := ⟨_, rfl⟩
    rw [hb1, hb2] at hpq
    have HB1 := Lib.hid hb1
    have HB2 := Lib.hid hb2
    have HPQ := Lib.hid hpq
    clear hb1 hb2 hpq
    cases b1 with
    | false =>
      go_enter Try.func20, Try.ntmps20
      go_wp2_with fail
      generalize (w.alloc (.cells (cc c pa pn pc sa sn sc) 25)).alloc (.cells (cc d qa qn qc ta tn tc) 25) = W at *
      have H2 := Lib.hid H1.out.drew
      have H2' := Lib.hid H1'.out.drew
      have X2 := Lib.hid (X1.out.below (below_drew (Below.refl _ _)))
      have Y2 := Lib.hid (Y1.out.below (below_drew (Below.refl _ _)))
      have B2 := Lib.hid (below_drew B1.out)
      clear H1 H1' X1 Y1 B1
      refine wp_region_held_drew (S := (TwoC w.heap.size c pa pn pc sa sn sc (w.heap.size + 1) d qa qn qc ta tn tc)) (by kernel_rfl) ⟨eleven X2.out, eleven Y2.out⟩ (fun _ => ?_)
      change wpAnyH _ _ _ _ _ 20 #[false, false, false, false, false, false, false, false, false, false, false, false, false, false, false, false, false, false, false, false] _ (World.drew _)
      refine wpAnyH_take (i := 0) (v := cv c pa pn pc sa sn sc) rfl (by kernel_rfl) (by kernel_rfl) (by kernel_rfl) (fun _ _ _ h => h) (Or.inl ⟨by rfl, fun u hu => by (obtain ⟨⟨e0, e1, e2, e3, e4, e5, e6, e7, e8, e9, e10⟩, _⟩ := hu; go_simp)⟩) ⟨eleven X2.out, eleven Y2.out⟩ ?_
      simp only [List.getElem_toArray, List.getElem_cons_succ, List.getElem_cons_zero, Act.put, List.setIfInBounds_toArray, List.set_cons_zero, List.set_cons_succ]
      refine wpAnyH_take (i := 2) (v := cv d qa qn qc ta tn tc) rfl (by kernel_rfl) (by kernel_rfl) (by kernel_rfl) (fun _ _ _ h => h) (Or.inl ⟨by rfl, fun u hu => by (obtain ⟨_, ⟨e0, e1, e2, e3, e4, e5, e6, e7, e8, e9, e10⟩⟩ := hu; go_simp)⟩) ⟨eleven X2.out, eleven Y2.out⟩ ?_
      simp only [List.getElem_toArray, List.getElem_cons_succ, List.getElem_cons_zero, Act.put, List.setIfInBounds_toArray, List.set_cons_zero, List.set_cons_succ]
      refine wpAnyH_ready (rs := [1]) (by kernel_rfl) (by simp) ?_
      refine AllReadyH.cons rfl (fun K hK => ?_) AllReadyH.nil
      go_simp
      go_at_call 38
      refine (nums_any c _ pn _ _ sn _ _).mono ?_
      rintro e w2 ⟨rfl, b2⟩
      have H3 := Lib.hid (H2.out.below b2)
      have H3' := Lib.hid (H2'.out.below b2)
      have X3 := Lib.hid (X2.out.below b2)
      have Y3 := Lib.hid (Y2.out.below b2)
      have B3 := Lib.hid (B2.out.trans (b2.mono B2.out.size))
      clear b2 H2 H2' X2 Y2 B2
      refine hK.out _ _ ⟨eleven X3.out, eleven Y3.out⟩ (fun _ => ?_)
      clear hK K
      simp only [List.setIfInBounds_toArray, List.set_cons_zero, List.set_cons_succ]
      refine wpAnyH_ready (rs := [3]) (by kernel_rfl) (by simp) ?_
      refine AllReadyH.cons rfl (fun K hK => ?_) AllReadyH.nil
      go_simp
      go_at_call 38
      refine (nums_any d _ qn _ _ tn _ _).mono ?_
      rintro e w3 ⟨rfl, b3⟩
      have H4 := Lib.hid (H3.out.below b3)
      have H4' := Lib.hid (H3'.out.below b3)
      have X4 := Lib.hid (X3.out.below b3)
      have Y4 := Lib.hid (Y3.out.below b3)
      have B4 := Lib.hid (B3.out.trans (b3.mono B3.out.size))
      clear b3 H3 H3' X3 Y3 B3
      refine hK.out _ _ ⟨eleven X4.out, eleven Y4.out⟩ (fun _ => ?_)
      clear hK K
      simp only [List.setIfInBounds_toArray, List.set_cons_zero, List.set_cons_succ]
      refine wpAnyH_take (i := 4) (v := .bool true) rfl (by kernel_rfl) (by kernel_rfl) (by kernel_rfl) (fun _ _ _ h => h) (Or.inl ⟨by rfl, fun u hu => by (go_simp)⟩) ⟨eleven X4.out, eleven Y4.out⟩ ?_
      simp only [List.getElem_toArray, List.getElem_cons_succ, List.getElem_cons_zero, Act.put, List.setIfInBounds_toArray, List.set_cons_zero, List.set_cons_succ]
      refine wpAnyH_take (i := 5) (v := .bool true) rfl (by kernel_rfl) (by kernel_rfl) (by kernel_rfl) (fun _ _ _ h => h) (Or.inl ⟨by rfl, fun u hu => by (go_simp)⟩) ⟨eleven X4.out, eleven Y4.out⟩ ?_
      simp only [List.getElem_toArray, List.getElem_cons_succ, List.getElem_cons_zero, Act.put, List.setIfInBounds_toArray, List.set_cons_zero, List.set_cons_succ]
      refine wpAnyH_take (i := 6) (v := .pointer (some ⟨w.heap.size, 9, none⟩)) rfl (by kernel_rfl) (by kernel_rfl) (by kernel_rfl) (fun _ _ _ h => h) (Or.inl ⟨by rfl, fun u hu => by (go_simp)⟩) ⟨eleven X4.out, eleven Y4.out⟩ ?_
      simp only [List.getElem_toArray, List.getElem_cons_succ, List.getElem_cons_zero, Act.put, List.setIfInBounds_toArray, List.set_cons_zero, List.set_cons_succ]
      refine wpAnyH_take (i := 7) (v := .slice pa pn pc) rfl (by kernel_rfl) (by kernel_rfl) (by kernel_rfl) (fun _ _ _ h => h) (Or.inl ⟨by rfl, fun u hu => by (obtain ⟨⟨e0, e1, e2, e3, e4, e5, e6, e7, e8, e9, e10⟩, _⟩ := hu; go_simp)⟩) ⟨eleven X4.out, eleven Y4.out⟩ ?_
      simp only [List.getElem_toArray, List.getElem_cons_succ, List.getElem_cons_zero, Act.put, List.setIfInBounds_toArray, List.set_cons_zero, List.set_cons_succ]
      refine wpAnyH_take (i := 8) (v := .pointer (some ⟨w.heap.size + 1, 9, none⟩)) rfl (by kernel_rfl) (by kernel_rfl) (by kernel_rfl) (fun _ _ _ h => h) (Or.inl ⟨by rfl, fun u hu => by (go_simp)⟩) ⟨eleven X4.out, eleven Y4.out⟩ ?_
      simp only [List.getElem_toArray, List.getElem_cons_succ, List.getElem_cons_zero, Act.put, List.setIfInBounds_toArray, List.set_cons_zero, List.set_cons_succ]
      refine wpAnyH_take (i := 9) (v := .slice qa qn qc) rfl (by kernel_rfl) (by kernel_rfl) (by kernel_rfl) (fun _ _ _ h => h) (Or.inl ⟨by rfl, fun u hu => by (obtain ⟨_, ⟨e0, e1, e2, e3, e4, e5, e6, e7, e8, e9, e10⟩⟩ := hu; go_simp)⟩) ⟨eleven X4.out, eleven Y4.out⟩ ?_
      simp only [List.getElem_toArray, List.getElem_cons_succ, List.getElem_cons_zero, Act.put, List.setIfInBounds_toArray, List.set_cons_zero, List.set_cons_succ]
      refine wpAnyH_ready (rs := [10]) (by kernel_rfl) (by simp) ?_
      refine AllReadyH.cons rfl (fun K hK => ?_) AllReadyH.nil
      go_simp
      go_at_call 39
      refine (eqf_any H4.out.pr H4'.out.pr _ _).mono ?_
      rintro e w4 ⟨rfl, b4⟩
      have H5 := Lib.hid (H4.out.below b4)
      have H5' := Lib.hid (H4'.out.below b4)
      have X5 := Lib.hid (X4.out.below b4)
      have Y5 := Lib.hid (Y4.out.below b4)
      have B5 := Lib.hid (B4.out.trans (b4.mono B4.out.size))
      clear b4 H4 H4' X4 Y4 B4
      rw [HB1.out]
      refine hK.out _ _ ⟨eleven X5.out, eleven Y5.out⟩ (fun _ => ?_)
      clear hK K
      simp only [List.setIfInBounds_toArray, List.set_cons_zero, List.set_cons_succ]
      refine wpAnyH_take (i := 11) (v := .bool false) rfl (by kernel_rfl) (by kernel_rfl) (by kernel_rfl) (fun _ _ _ h => h) (Or.inl ⟨by rfl, fun u hu => by (go_simp)⟩) ⟨eleven X5.out, eleven Y5.out⟩ ?_
      simp only [List.getElem_toArray, List.getElem_cons_succ, List.getElem_cons_zero, Act.put, List.setIfInBounds_toArray, List.set_cons_zero, List.set_cons_succ]
      refine wpAnyH_take (i := 12) (v := .bool false) rfl (by kernel_rfl) (by kernel_rfl) (by kernel_rfl) (fun _ _ _ h => h) (Or.inl ⟨by rfl, fun u hu => by (go_simp)⟩) ⟨eleven X5.out, eleven Y5.out⟩ ?_
      simp only [List.getElem_toArray, List.getElem_cons_succ, List.getElem_cons_zero, Act.put, List.setIfInBounds_toArray, List.set_cons_zero, List.set_cons_succ]
      refine wpAnyH_take (i := 13) (v := undef) rfl (by kernel_rfl) (by kernel_rfl) (by kernel_rfl) (fun _ _ _ h => h) (Or.inr ⟨by rfl, rfl⟩) ⟨eleven X5.out, eleven Y5.out⟩ ?_
      simp only [List.getElem_toArray, List.getElem_cons_succ, List.getElem_cons_zero, Act.put, List.setIfInBounds_toArray, List.set_cons_zero, List.set_cons_succ]
      refine wpAnyH_take (i := 14) (v := undef) rfl (by kernel_rfl) (by kernel_rfl) (by kernel_rfl) (fun _ _ _ h => h) (Or.inr ⟨by rfl, rfl⟩) ⟨eleven X5.out, eleven Y5.out⟩ ?_
      simp only [List.getElem_toArray, List.getElem_cons_succ, List.getElem_cons_zero, Act.put, List.setIfInBounds_toArray, List.set_cons_zero, List.set_cons_succ]
      refine wpAnyH_take (i := 15) (v := undef) rfl (by kernel_rfl) (by kernel_rfl) (by kernel_rfl) (fun _ _ _ h => h) (Or.inr ⟨by rfl, rfl⟩) ⟨eleven X5.out, eleven Y5.out⟩ ?_
      simp only [List.getElem_toArray, List.getElem_cons_succ, List.getElem_cons_zero, Act.put, List.setIfInBounds_toArray, List.set_cons_zero, List.set_cons_succ]
      refine wpAnyH_take (i := 16) (v := undef) rfl (by kernel_rfl) (by kernel_rfl) (by kernel_rfl) (fun _ _ _ h => h) (Or.inr ⟨by rfl, rfl⟩) ⟨eleven X5.out, eleven Y5.out⟩ ?_
      simp only [List.getElem_toArray, List.getElem_cons_succ, List.getElem_cons_zero, Act.put, List.setIfInBounds_toArray, List.set_cons_zero, List.set_cons_succ]
      refine wpAnyH_take (i := 17) (v := undef) rfl (by kernel_rfl) (by kernel_rfl) (by kernel_rfl) (fun _ _ _ h => h) (Or.inr ⟨by rfl, rfl⟩) ⟨eleven X5.out, eleven Y5.out⟩ ?_
      simp only [List.getElem_toArray, List.getElem_cons_succ, List.getElem_cons_zero, Act.put, List.setIfInBounds_toArray, List.set_cons_zero, List.set_cons_succ]
      refine wpAnyH_take (i := 18) (v := .bool false) rfl (by kernel_rfl) (by kernel_rfl) (by kernel_rfl) (fun _ _ _ h => h) (Or.inl ⟨by rfl, fun u hu => by (go_simp)⟩) ⟨eleven X5.out, eleven Y5.out⟩ ?_
      simp only [List.getElem_toArray, List.getElem_cons_succ, List.getElem_cons_zero, Act.put, List.setIfInBounds_toArray, List.set_cons_zero, List.set_cons_succ]
      refine wpAnyH_take (i := 19) (v := .bool false) rfl (by kernel_rfl) (by kernel_rfl) (by kernel_rfl) (fun _ _ _ h => h) (Or.inl ⟨by rfl, fun u hu => by (go_simp)⟩) ⟨eleven X5.out, eleven Y5.out⟩ ?_
      simp only [List.getElem_toArray, List.getElem_cons_succ, List.getElem_cons_zero, Act.put, List.setIfInBounds_toArray, List.set_cons_zero, List.set_cons_succ]
      refine wpAnyH_done (by kernel_rfl) ?_ _
      have hr := HPQ.out
      rw [Bool.false_and] at hr
      subst hr
      go_wp2
      go_ret
      exact ⟨rfl, B5.out⟩
    | true =>
      go_enter Try.func20, Try.ntmps20
      go_wp2_with fail
      generalize (w.alloc (.cells (cc c pa pn pc sa sn sc) 25)).alloc (.cells (cc d qa qn qc ta tn tc) 25) = W at *
      have H2 := Lib.hid H1.out.drew
      have H2' := Lib.hid H1'.out.drew
      have X2 := Lib.hid (X1.out.below (below_drew (Below.refl _ _)))
      have Y2 := Lib.hid (Y1.out.below (below_drew (Below.refl _ _)))
      have B2 := Lib.hid (below_drew B1.out)
      clear H1 H1' X1 Y1 B1
      refine wp_region_held_drew (S := (TwoC w.heap.size c pa pn pc sa sn sc (w.heap.size + 1) d qa qn qc ta tn tc)) (by kernel_rfl) ⟨eleven X2.out, eleven Y2.out⟩ (fun _ => ?_)
      change wpAnyH _ _ _ _ _ 20 #[false, false, false, false, false, false, false, false, false, false, false, false, false, false, false, false, false, false, false, false] _ (World.drew _)
      refine wpAnyH_take (i := 0) (v := cv c pa pn pc sa sn sc) rfl (by kernel_rfl) (by kernel_rfl) (by kernel_rfl) (fun _ _ _ h => h) (Or.inl ⟨by rfl, fun u hu => by (obtain ⟨⟨e0, e1, e2, e3, e4, e5, e6, e7, e8, e9, e10⟩, _⟩ := hu; go_simp)⟩) ⟨eleven X2.out, eleven Y2.out⟩ ?_
      simp only [List.getElem_toArray, List.getElem_cons_succ, List.getElem_cons_zero, Act.put, List.setIfInBounds_toArray, List.set_cons_zero, List.set_cons_succ]
      refine wpAnyH_take (i := 2) (v := cv d qa qn qc ta tn tc) rfl (by kernel_rfl) (by kernel_rfl) (by kernel_rfl) (fun _ _ _ h => h) (Or.inl ⟨by rfl, fun u hu => by (obtain ⟨_, ⟨e0, e1, e2, e3, e4, e5, e6, e7, e8, e9, e10⟩⟩ := hu; go_simp)⟩) ⟨eleven X2.out, eleven Y2.out⟩ ?_
      simp only [List.getElem_toArray, List.getElem_cons_succ, List.getElem_cons_zero, Act.put, List.setIfInBounds_toArray, List.set_cons_zero, List.set_cons_succ]
      refine wpAnyH_ready (rs := [1]) (by kernel_rfl) (by simp) ?_
      refine AllReadyH.cons rfl (fun K hK => ?_) AllReadyH.nil
      go_simp
      go_at_call 38
      refine (nums_any c _ pn _ _ sn _ _).mono ?_
      rintro e w2 ⟨rfl, b2⟩
      have H3 := Lib.hid (H2.out.below b2)
      have H3' := Lib.hid (H2'.out.below b2)
      have X3 := Lib.hid (X2.out.below b2)
      have Y3 := Lib.hid (Y2.out.below b2)
      have B3 := Lib.hid (B2.out.trans (b2.mono B2.out.size))
      clear b2 H2 H2' X2 Y2 B2
      refine hK.out _ _ ⟨eleven X3.out, eleven Y3.out⟩ (fun _ => ?_)
      clear hK K
      simp only [List.setIfInBounds_toArray, List.set_cons_zero, List.set_cons_succ]
      refine wpAnyH_ready (rs := [3]) (by kernel_rfl) (by simp) ?_
      refine AllReadyH.cons rfl (fun K hK => ?_) AllReadyH.nil
      go_simp
      go_at_call 38
      refine (nums_any d _ qn _ _ tn _ _).mono ?_
      rintro e w3 ⟨rfl, b3⟩
      have H4 := Lib.hid (H3.out.below b3)
      have H4' := Lib.hid (H3'.out.below b3)
      have X4 := Lib.hid (X3.out.below b3)
      have Y4 := Lib.hid (Y3.out.below b3)
      have B4 := Lib.hid (B3.out.trans (b3.mono B3.out.size))
      clear b3 H3 H3' X3 Y3 B3
      refine hK.out _ _ ⟨eleven X4.out, eleven Y4.out⟩ (fun _ => ?_)
      clear hK K
      simp only [List.setIfInBounds_toArray, List.set_cons_zero, List.set_cons_succ]
      refine wpAnyH_take (i := 4) (v := .bool true) rfl (by kernel_rfl) (by kernel_rfl) (by kernel_rfl) (fun _ _ _ h => h) (Or.inl ⟨by rfl, fun u hu => by (go_simp)⟩) ⟨eleven X4.out, eleven Y4.out⟩ ?_
      simp only [List.getElem_toArray, List.getElem_cons_succ, List.getElem_cons_zero, Act.put, List.setIfInBounds_toArray, List.set_cons_zero, List.set_cons_succ]
      refine wpAnyH_take (i := 5) (v := .bool true) rfl (by kernel_rfl) (by kernel_rfl) (by kernel_rfl) (fun _ _ _ h => h) (Or.inl ⟨by rfl, fun u hu => by (go_simp)⟩) ⟨eleven X4.out, eleven Y4.out⟩ ?_
      simp only [List.getElem_toArray, List.getElem_cons_succ, List.getElem_cons_zero, Act.put, List.setIfInBounds_toArray, List.set_cons_zero, List.set_cons_succ]
      refine wpAnyH_take (i := 6) (v := .pointer (some ⟨w.heap.size, 9, none⟩)) rfl (by kernel_rfl) (by kernel_rfl) (by kernel_rfl) (fun _ _ _ h => h) (Or.inl ⟨by rfl, fun u hu => by (go_simp)⟩) ⟨eleven X4.out, eleven Y4.out⟩ ?_
      simp only [List.getElem_toArray, List.getElem_cons_succ, List.getElem_cons_zero, Act.put, List.setIfInBounds_toArray, List.set_cons_zero, List.set_cons_succ]
      refine wpAnyH_take (i := 7) (v := .slice pa pn pc) rfl (by kernel_rfl) (by kernel_rfl) (by kernel_rfl) (fun _ _ _ h => h) (Or.inl ⟨by rfl, fun u hu => by (obtain ⟨⟨e0, e1, e2, e3, e4, e5, e6, e7, e8, e9, e10⟩, _⟩ := hu; go_simp)⟩) ⟨eleven X4.out, eleven Y4.out⟩ ?_
      simp only [List.getElem_toArray, List.getElem_cons_succ, List.getElem_cons_zero, Act.put, List.setIfInBounds_toArray, List.set_cons_zero, List.set_cons_succ]
      refine wpAnyH_take (i := 8) (v := .pointer (some ⟨w.heap.size + 1, 9, none⟩)) rfl (by kernel_rfl) (by kernel_rfl) (by kernel_rfl) (fun _ _ _ h => h) (Or.inl ⟨by rfl, fun u hu => by (go_simp)⟩) ⟨eleven X4.out, eleven Y4.out⟩ ?_
      simp only [List.getElem_toArray, List.getElem_cons_succ, List.getElem_cons_zero, Act.put, List.setIfInBounds_toArray, List.set_cons_zero, List.set_cons_succ]
      refine wpAnyH_take (i := 9) (v := .slice qa qn qc) rfl (by kernel_rfl) (by kernel_rfl) (by kernel_rfl) (fun _ _ _ h => h) (Or.inl ⟨by rfl, fun u hu => by (obtain ⟨_, ⟨e0, e1, e2, e3, e4, e5, e6, e7, e8, e9, e10⟩⟩ := hu; go_simp)⟩) ⟨eleven X4.out, eleven Y4.out⟩ ?_
      simp only [List.getElem_toArray, List.getElem_cons_succ, List.getElem_cons_zero, Act.put, List.setIfInBounds_toArray, List.set_cons_zero, List.set_cons_succ]
      refine wpAnyH_ready (rs := [10]) (by kernel_rfl) (by simp) ?_
      refine AllReadyH.cons rfl (fun K hK => ?_) AllReadyH.nil
      go_simp
      go_at_call 39
      refine (eqf_any H4.out.pr H4'.out.pr _ _).mono ?_
      rintro e w4 ⟨rfl, b4⟩
      have H5 := Lib.hid (H4.out.below b4)
      have H5' := Lib.hid (H4'.out.below b4)
      have X5 := Lib.hid (X4.out.below b4)
      have Y5 := Lib.hid (Y4.out.below b4)
      have B5 := Lib.hid (B4.out.trans (b4.mono B4.out.size))
      clear b4 H4 H4' X4 Y4 B4
      rw [HB1.out]
      refine hK.out _ _ ⟨eleven X5.out, eleven Y5.out⟩ (fun _ => ?_)
      clear hK K
      simp only [List.setIfInBounds_toArray, List.set_cons_zero, List.set_cons_succ]
      refine wpAnyH_take (i := 11) (v := .bool true) rfl (by kernel_rfl) (by kernel_rfl) (by kernel_rfl) (fun _ _ _ h => h) (Or.inl ⟨by rfl, fun u hu => by (go_simp)⟩) ⟨eleven X5.out, eleven Y5.out⟩ ?_
      simp only [List.getElem_toArray, List.getElem_cons_succ, List.getElem_cons_zero, Act.put, List.setIfInBounds_toArray, List.set_cons_zero, List.set_cons_succ]
      refine wpAnyH_take (i := 12) (v := .bool true) rfl (by kernel_rfl) (by kernel_rfl) (by kernel_rfl) (fun _ _ _ h => h) (Or.inl ⟨by rfl, fun u hu => by (go_simp)⟩) ⟨eleven X5.out, eleven Y5.out⟩ ?_
      simp only [List.getElem_toArray, List.getElem_cons_succ, List.getElem_cons_zero, Act.put, List.setIfInBounds_toArray, List.set_cons_zero, List.set_cons_succ]
      refine wpAnyH_take (i := 13) (v := .pointer (some ⟨w.heap.size, 10, none⟩)) rfl (by kernel_rfl) (by kernel_rfl) (by kernel_rfl) (fun _ _ _ h => h) (Or.inl ⟨by rfl, fun u hu => by (go_simp)⟩) ⟨eleven X5.out, eleven Y5.out⟩ ?_
      simp only [List.getElem_toArray, List.getElem_cons_succ, List.getElem_cons_zero, Act.put, List.setIfInBounds_toArray, List.set_cons_zero, List.set_cons_succ]
      refine wpAnyH_take (i := 14) (v := .slice sa sn sc) rfl (by kernel_rfl) (by kernel_rfl) (by kernel_rfl) (fun _ _ _ h => h) (Or.inl ⟨by rfl, fun u hu => by (obtain ⟨⟨e0, e1, e2, e3, e4, e5, e6, e7, e8, e9, e10⟩, _⟩ := hu; go_simp)⟩) ⟨eleven X5.out, eleven Y5.out⟩ ?_
      simp only [List.getElem_toArray, List.getElem_cons_succ, List.getElem_cons_zero, Act.put, List.setIfInBounds_toArray, List.set_cons_zero, List.set_cons_succ]
      refine wpAnyH_take (i := 15) (v := .pointer (some ⟨w.heap.size + 1, 10, none⟩)) rfl (by kernel_rfl) (by kernel_rfl) (by kernel_rfl) (fun _ _ _ h => h) (Or.inl ⟨by rfl, fun u hu => by (go_simp)⟩) ⟨eleven X5.out, eleven Y5.out⟩ ?_
      simp only [List.getElem_toArray, List.getElem_cons_succ, List.getElem_cons_zero, Act.put, List.setIfInBounds_toArray, List.set_cons_zero, List.set_cons_succ]
      refine wpAnyH_take (i := 16) (v := .slice ta tn tc) rfl (by kernel_rfl) (by kernel_rfl) (by kernel_rfl) (fun _ _ _ h => h) (Or.inl ⟨by rfl, fun u hu => by (obtain ⟨_, ⟨e0, e1, e2, e3, e4, e5, e6, e7, e8, e9, e10⟩⟩ := hu; go_simp)⟩) ⟨eleven X5.out, eleven Y5.out⟩ ?_
      simp only [List.getElem_toArray, List.getElem_cons_succ, List.getElem_cons_zero, Act.put, List.setIfInBounds_toArray, List.set_cons_zero, List.set_cons_succ]
      refine wpAnyH_ready (rs := [17]) (by kernel_rfl) (by simp) ?_
      refine AllReadyH.cons rfl (fun K hK => ?_) AllReadyH.nil
      go_simp
      go_at_call 41
      refine (eqs_any H5.out.su H5'.out.su _ _).mono ?_
      rintro e w5 ⟨rfl, b5⟩
      have H6 := Lib.hid (H5.out.below b5)
      have H6' := Lib.hid (H5'.out.below b5)
      have X6 := Lib.hid (X5.out.below b5)
      have Y6 := Lib.hid (Y5.out.below b5)
      have B6 := Lib.hid (B5.out.trans (b5.mono B5.out.size))
      clear b5 H5 H5' X5 Y5 B5
      rw [HB2.out]
      refine hK.out _ _ ⟨eleven X6.out, eleven Y6.out⟩ (fun _ => ?_)
      clear hK K
      simp only [List.setIfInBounds_toArray, List.set_cons_zero, List.set_cons_succ]
      refine wpAnyH_take (i := 18) (v := .bool b2) rfl (by kernel_rfl) (by kernel_rfl) (by kernel_rfl) (fun _ _ _ h => h) (Or.inl ⟨by rfl, fun u hu => by (go_simp)⟩) ⟨eleven X6.out, eleven Y6.out⟩ ?_
      simp only [List.getElem_toArray, List.getElem_cons_succ, List.getElem_cons_zero, Act.put, List.setIfInBounds_toArray, List.set_cons_zero, List.set_cons_succ]
      refine wpAnyH_take (i := 19) (v := .bool b2) rfl (by kernel_rfl) (by kernel_rfl) (by kernel_rfl) (fun _ _ _ h => h) (Or.inl ⟨by rfl, fun u hu => by (go_simp)⟩) ⟨eleven X6.out, eleven Y6.out⟩ ?_
      simp only [List.getElem_toArray, List.getElem_cons_succ, List.getElem_cons_zero, Act.put, List.setIfInBounds_toArray, List.set_cons_zero, List.set_cons_succ]
      refine wpAnyH_done (by kernel_rfl) ?_ _
      have hr := HPQ.out
      rw [Bool.true_and] at hr
      subst hr
      go_wp2
      go_ret
      exact ⟨rfl, B6.out⟩
  | false =>
    have ht : t = false := by
      rw [← HTT.out]
      exact decide_eq_false (fun e => absurd (hiff.2 (cfg_ext.1 e).1) (by simp))
    subst ht
    clear hiff
    go_enter Try.func20, Try.ntmps20
    go_wp2_with fail
    generalize (w.alloc (.cells (cc c pa pn pc sa sn sc) 25)).alloc (.cells (cc d qa qn qc ta tn tc) 25) = W at *
    have H2 := Lib.hid H1.out.drew
    have H2' := Lib.hid H1'.out.drew
    have X2 := Lib.hid (X1.out.below (below_drew (Below.refl _ _)))
    have Y2 := Lib.hid (Y1.out.below (below_drew (Below.refl _ _)))
    have B2 := Lib.hid (below_drew B1.out)
    clear H1 H1' X1 Y1 B1
    refine wp_region_held_drew (S := (TwoC w.heap.size c pa pn pc sa sn sc (w.heap.size + 1) d qa qn qc ta tn tc)) (by kernel_rfl) ⟨eleven X2.out, eleven Y2.out⟩ (fun _ => ?_)
    change wpAnyH _ _ _ _ _ 20 #[false, false, false, false, false, false, false, false, false, false, false, false, false, false, false, false, false, false, false, false] _ (World.drew _)
    refine wpAnyH_take (i := 0) (v := cv c pa pn pc sa sn sc) rfl (by kernel_rfl) (by kernel_rfl) (by kernel_rfl) (fun _ _ _ h => h) (Or.inl ⟨by rfl, fun u hu => by (obtain ⟨⟨e0, e1, e2, e3, e4, e5, e6, e7, e8, e9, e10⟩, _⟩ := hu; go_simp)⟩) ⟨eleven X2.out, eleven Y2.out⟩ ?_
    simp only [List.getElem_toArray, List.getElem_cons_succ, List.getElem_cons_zero, Act.put, List.setIfInBounds_toArray, List.set_cons_zero, List.set_cons_succ]
    refine wpAnyH_take (i := 2) (v := cv d qa qn qc ta tn tc) rfl (by kernel_rfl) (by kernel_rfl) (by kernel_rfl) (fun _ _ _ h => h) (Or.inl ⟨by rfl, fun u hu => by (obtain ⟨_, ⟨e0, e1, e2, e3, e4, e5, e6, e7, e8, e9, e10⟩⟩ := hu; go_simp)⟩) ⟨eleven X2.out, eleven Y2.out⟩ ?_
    simp only [List.getElem_toArray, List.getElem_cons_succ, List.getElem_cons_zero, Act.put, List.setIfInBounds_toArray, List.set_cons_zero, List.set_cons_succ]
    refine wpAnyH_ready (rs := [1]) (by kernel_rfl) (by simp) ?_
    refine AllReadyH.cons rfl (fun K hK => ?_) AllReadyH.nil
    go_simp
    go_at_call 38
    refine (nums_any c _ pn _ _ sn _ _).mono ?_
    rintro e w2 ⟨rfl, b2⟩
    have H3 := Lib.hid (H2.out.below b2)
    have H3' := Lib.hid (H2'.out.below b2)
    have X3 := Lib.hid (X2.out.below b2)
    have Y3 := Lib.hid (Y2.out.below b2)
    have B3 := Lib.hid (B2.out.trans (b2.mono B2.out.size))
    clear b2 H2 H2' X2 Y2 B2
    refine hK.out _ _ ⟨eleven X3.out, eleven Y3.out⟩ (fun _ => ?_)
    clear hK K
    simp only [List.setIfInBounds_toArray, List.set_cons_zero, List.set_cons_succ]
    refine wpAnyH_ready (rs := [3]) (by kernel_rfl) (by simp) ?_
    refine AllReadyH.cons rfl (fun K hK => ?_) AllReadyH.nil
    go_simp
    go_at_call 38
    refine (nums_any d _ qn _ _ tn _ _).mono ?_
    rintro e w3 ⟨rfl, b3⟩
    have H4 := Lib.hid (H3.out.below b3)
    have H4' := Lib.hid (H3'.out.below b3)
    have X4 := Lib.hid (X3.out.below b3)
    have Y4 := Lib.hid (Y3.out.below b3)
    have B4 := Lib.hid (B3.out.trans (b3.mono B3.out.size))
    clear b3 H3 H3' X3 Y3 B3
    refine hK.out _ _ ⟨eleven X4.out, eleven Y4.out⟩ (fun _ => ?_)
    clear hK K
    simp only [List.setIfInBounds_toArray, List.set_cons_zero, List.set_cons_succ]
    refine wpAnyH_take (i := 4) (v := .bool false) rfl (by kernel_rfl) (by kernel_rfl) (by kernel_rfl) (fun _ _ _ h => h) (Or.inl ⟨by rfl, fun u hu => by (go_simp)⟩) ⟨eleven X4.out, eleven Y4.out⟩ ?_
    simp only [List.getElem_toArray, List.getElem_cons_succ, List.getElem_cons_zero, Act.put, List.setIfInBounds_toArray, List.set_cons_zero, List.set_cons_succ]
    refine wpAnyH_take (i := 5) (v := .bool false) rfl (by kernel_rfl) (by kernel_rfl) (by kernel_rfl) (fun _ _ _ h => h) (Or.inl ⟨by rfl, fun u hu => by (go_simp)⟩) ⟨eleven X4.out, eleven Y4.out⟩ ?_
    simp only [List.getElem_toArray, List.getElem_cons_succ, List.getElem_cons_zero, Act.put, List.setIfInBounds_toArray, List.set_cons_zero, List.set_cons_succ]
    refine wpAnyH_take (i := 6) (v := undef) rfl (by kernel_rfl) (by kernel_rfl) (by kernel_rfl) (fun _ _ _ h => h) (Or.inr ⟨by rfl, rfl⟩) ⟨eleven X4.out, eleven Y4.out⟩ ?_
    simp only [List.getElem_toArray, List.getElem_cons_succ, List.getElem_cons_zero, Act.put, List.setIfInBounds_toArray, List.set_cons_zero, List.set_cons_succ]
    refine wpAnyH_take (i := 7) (v := undef) rfl (by kernel_rfl) (by kernel_rfl) (by kernel_rfl) (fun _ _ _ h => h) (Or.inr ⟨by rfl, rfl⟩) ⟨eleven X4.out, eleven Y4.out⟩ ?_
    simp only [List.getElem_toArray, List.getElem_cons_succ, List.getElem_cons_zero, Act.put, List.setIfInBounds_toArray, List.set_cons_zero, List.set_cons_succ]
    refine wpAnyH_take (i := 8) (v := undef) rfl (by kernel_rfl) (by kernel_rfl) (by kernel_rfl) (fun _ _ _ h => h) (Or.inr ⟨by rfl, rfl⟩) ⟨eleven X4.out, eleven Y4.out⟩ ?_
    simp only [List.getElem_toArray, List.getElem_cons_succ, List.getElem_cons_zero, Act.put, List.setIfInBounds_toArray, List.set_cons_zero, List.set_cons_succ]
    refine wpAnyH_take (i := 9) (v := undef) rfl (by kernel_rfl) (by kernel_rfl) (by kernel_rfl) (fun _ _ _ h => h) (Or.inr ⟨by rfl, rfl⟩) ⟨eleven X4.out, eleven Y4.out⟩ ?_
    simp only [List.getElem_toArray, List.getElem_cons_succ, List.getElem_cons_zero, Act.put, List.setIfInBounds_toArray, List.set_cons_zero, List.set_cons_succ]
    refine wpAnyH_take (i := 10) (v := undef) rfl (by kernel_rfl) (by kernel_rfl) (by kernel_rfl) (fun _ _ _ h => h) (Or.inr ⟨by rfl, rfl⟩) ⟨eleven X4.out, eleven Y4.out⟩ ?_
    simp only [List.getElem_toArray, List.getElem_cons_succ, List.getElem_cons_zero, Act.put, List.setIfInBounds_toArray, List.set_cons_zero, List.set_cons_succ]
    refine wpAnyH_take (i := 11) (v := .bool false) rfl (by kernel_rfl) (by kernel_rfl) (by kernel_rfl) (fun _ _ _ h => h) (Or.inl ⟨by rfl, fun u hu => by (go_simp)⟩) ⟨eleven X4.out, eleven Y4.out⟩ ?_
    simp only [List.getElem_toArray, List.getElem_cons_succ, List.getElem_cons_zero, Act.put, List.setIfInBounds_toArray, List.set_cons_zero, List.set_cons_succ]
    refine wpAnyH_take (i := 12) (v := .bool false) rfl (by kernel_rfl) (by kernel_rfl) (by kernel_rfl) (fun _ _ _ h => h) (Or.inl ⟨by rfl, fun u hu => by (go_simp)⟩) ⟨eleven X4.out, eleven Y4.out⟩ ?_
    simp only [List.getElem_toArray, List.getElem_cons_succ, List.getElem_cons_zero, Act.put, List.setIfInBounds_toArray, List.set_cons_zero, List.set_cons_succ]
    refine wpAnyH_take (i := 13) (v := undef) rfl (by kernel_rfl) (by kernel_rfl) (by kernel_rfl) (fun _ _ _ h => h) (Or.inr ⟨by rfl, rfl⟩) ⟨eleven X4.out, eleven Y4.out⟩ ?_
    simp only [List.getElem_toArray, List.getElem_cons_succ, List.getElem_cons_zero, Act.put, List.setIfInBounds_toArray, List.set_cons_zero, List.set_cons_succ]
    refine wpAnyH_take (i := 14) (v := undef) rfl (by kernel_rfl) (by kernel_rfl) (by kernel_rfl) (fun _ _ _ h => h) (Or.inr ⟨by rfl, rfl⟩) ⟨eleven X4.out, eleven Y4.out⟩ ?_
    simp only [List.getElem_toArray, List.getElem_cons_succ, List.getElem_cons_zero, Act.put, List.setIfInBounds_toArray, List.set_cons_zero, List.set_cons_succ]
    refine wpAnyH_take (i := 15) (v := undef) rfl (by kernel_rfl) (by kernel_rfl) (by kernel_rfl) (fun _ _ _ h => h) (Or.inr ⟨by rfl, rfl⟩) ⟨eleven X4.out, eleven Y4.out⟩ ?_
    simp only [List.getElem_toArray, List.getElem_cons_succ, List.getElem_cons_zero, Act.put, List.setIfInBounds_toArray, List.set_cons_zero, List.set_cons_succ]
    refine wpAnyH_take (i := 16) (v := undef) rfl (by kernel_rfl) (by kernel_rfl) (by kernel_rfl) (fun _ _ _ h => h) (Or.inr ⟨by rfl, rfl⟩) ⟨eleven X4.out, eleven Y4.out⟩ ?_
    simp only [List.getElem_toArray, List.getElem_cons_succ, List.getElem_cons_zero, Act.put, List.setIfInBounds_toArray, List.set_cons_zero, List.set_cons_succ]
    refine wpAnyH_take (i := 17) (v := undef) rfl (by kernel_rfl) (by kernel_rfl) (by kernel_rfl) (fun _ _ _ h => h) (Or.inr ⟨by rfl, rfl⟩) ⟨eleven X4.out, eleven Y4.out⟩ ?_
    simp only [List.getElem_toArray, List.getElem_cons_succ, List.getElem_cons_zero, Act.put, List.setIfInBounds_toArray, List.set_cons_zero, List.set_cons_succ]
    refine wpAnyH_take (i := 18) (v := .bool false) rfl (by kernel_rfl) (by kernel_rfl) (by kernel_rfl) (fun _ _ _ h => h) (Or.inl ⟨by rfl, fun u hu => by (go_simp)⟩) ⟨eleven X4.out, eleven Y4.out⟩ ?_
    simp only [List.getElem_toArray, List.getElem_cons_succ, List.getElem_cons_zero, Act.put, List.setIfInBounds_toArray, List.set_cons_zero, List.set_cons_succ]
    refine wpAnyH_take (i := 19) (v := .bool false) rfl (by kernel_rfl) (by kernel_rfl) (by kernel_rfl) (fun _ _ _ h => h) (Or.inl ⟨by rfl, fun u hu => by (go_simp)⟩) ⟨eleven X4.out, eleven Y4.out⟩ ?_
    simp only [List.getElem_toArray, List.getElem_cons_succ, List.getElem_cons_zero, Act.put, List.setIfInBounds_toArray, List.set_cons_zero, List.set_cons_succ]
    refine wpAnyH_done (by kernel_rfl) ?_ _
    go_wp2
    go_ret
    exact ⟨rfl, B4.out⟩
end Go.Proofs.Ytnpnamgeajifkaa
