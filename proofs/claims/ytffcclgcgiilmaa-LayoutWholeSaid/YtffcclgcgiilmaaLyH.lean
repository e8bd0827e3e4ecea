/-
  The walk of the statement LayoutWhole. (Written by wip/gen_lyh.py.)
-/
import Derived.Test.YtffcclgcgiilmaaLyE
import Derived.Test.YtffcclgcgiilmaaLyM
import Derived.Test.YtffcclgcgiilmaaOwnI
namespace Go.Proofs.Ytffcclgcgiilmaa
open Go Go.RowKit
set_option linter.unusedSimpArgs false

/-- A configuration, its layout, and the row of what was seen, all 0. -/
structure PreS (w : World) (g h z N : Nat) (c : Cfg) (pa : Option Addr) (pn pc : Nat) (sa : Option Addr) (sn sc : Nat) (u : World) : Prop where
  s : LawS w g h c pa pn pc sa sn sc u
  z : u.rowIs z 3 N (fun _ => .int .i64 0)
/-- .. and the list under way. -/
structure WhS (w : World) (g h z N base : Nat) (c : Cfg) (pa : Option Addr) (pn pc : Nat) (sa : Option Addr) (sn sc : Nat) (l : List Int) (v : Value) (u : World) : Prop where
  p : PreS w g h z N c pa pn pc sa sn sc u
  o : OwnI u base v l
  zb : z < base
  wb : w.heap.size ≤ base
  bu : base ≤ u.heap.size
section
variable {w : World} {g h z N base : Nat} {c : Cfg} {pa sa : Option Addr} {pn pc sn sc : Nat} {l l' : List Int} {v v' : Value} {u u' : World}
theorem PreS.below (s : PreS w g h z N c pa pn pc sa sn sc u) (b : Below u.heap.size u u') : PreS w g h z N c pa pn pc sa sn sc u' := ⟨s.s.below b, s.z.of_block (b.block _ s.z.lt)⟩
theorem WhS.below (s : WhS w g h z N base c pa pn pc sa sn sc l v u) (b : Below u.heap.size u u') : WhS w g h z N base c pa pn pc sa sn sc l v u' := ⟨s.p.below b, s.o.below b, s.zb, s.wb, Nat.le_trans s.bu b.size⟩
theorem WhS.alloc (s : WhS w g h z N base c pa pn pc sa sn sc l v u) (o : Obj) : WhS w g h z N base c pa pn pc sa sn sc l v (u.alloc o) := s.below (below_one u o)
theorem WhS.drew (s : WhS w g h z N base c pa pn pc sa sn sc l v u) : WhS w g h z N base c pa pn pc sa sn sc l v u.drew := s.below (below_drew (Below.refl _ _))
theorem WhS.app (s : WhS w g h z N base c pa pn pc sa sn sc l v u) (hown : OwnI u' base v' l') (hg : u.grownBy u' v.ownBlock) : WhS w g h z N base c pa pn pc sa sn sc l' v' u' :=
  ⟨⟨⟨s.p.s.x.appI s.o hg (.inl (by decide)), s.p.s.l.appI s.o hg (.inl (by decide)), below_appI s.p.s.b s.o s.wb hg⟩, s.p.z.of_block (hg.block _ s.p.z.lt (fun e => by have := (s.o.lt _ e.symm).1; have := s.zb; omega))⟩, hown, s.zb, s.wb, Nat.le_trans s.bu hg.size⟩
end
/-- What the loops keep. -/
def WhR (w : World) (g h z N base : Nat) (c : Cfg) (pa : Option Addr) (pn pc : Nat) (sa : Option Addr) (sn sc : Nat) (f : Nat → List Int) (M : Nat) (v i : Value) (u : World) : Prop :=
  ∃ k : Nat, k ≤ M ∧ i = .int .i64 k ∧ WhS w g h z N base c pa pn pc sa sn sc (f k) v u
def WhQ (w : World) (g h z N base : Nat) (c : Cfg) (pa : Option Addr) (pn pc : Nat) (sa : Option Addr) (sn sc : Nat) (f : Nat → List Int) (M q : Nat) (t b r d : Int) (v i : Value) (u : World) : Prop :=
  ∃ k : Nat, k ≤ M ∧ i = .int .i64 k ∧ WhS w g h z N base c pa pn pc sa sn sc (f k) v u ∧ Blk u q 44 (qcells t b r d)
/-- What the last loop keeps: what was seen. -/
structure SeenS (w : World) (z N base : Nat) (v : Value) (l : List Int) (k : Nat) (u : World) : Prop where
  z : u.rowIs z 3 N (fun x => .int .i64 (if (x : Int) ∈ l.take k then 1 else 0))
  o : OwnI u base v l
  b : Below w.heap.size w u
theorem SeenS.step {w u : World} {z N base : Nat} {v : Value} {l : List Int} {k x : Nat} (s : SeenS w z N base v l k u) (hz : z < base) (hw : w.heap.size ≤ z) (hk : k < l.length) (hx : l.getD k 0 = (x : Int)) :
    SeenS w z N base v l (k + 1) (u.setCell ⟨z, x, none⟩ (.int .i64 1)) := by
  have ht : l.take (k + 1) = l.take k ++ [(x : Int)] := by
    rw [List.take_add_one, List.getElem?_eq_getElem hk, ← hx, List.getD_eq_getElem?_getD, List.getElem?_eq_getElem hk]
    rfl
  refine ⟨(s.z.set x (.int .i64 1)).congr (fun i _ => ?_), ?_, s.b.setCell (p := ⟨z, x, none⟩) hw _⟩
  · rw [ht]
    by_cases hi : i = x
    · subst hi
      simp
    · have hi' : ¬ (i : Int) = (x : Int) := by omega
      simp [hi, hi']
  · refine ⟨s.o.1, ?_⟩
    rcases s.o.2 with h | ⟨g, cap, cur, e, h1, h2, rest⟩
    · exact .inl h
    · refine .inr ⟨g, cap, cur, e, h1, ?_, rest⟩
      rw [← h2]
      exact Below.heap_setCell _ _ _ _ (by show g ≠ z; omega)
theorem slot_in {c : Cfg} {k : Nat} (h : (k : Int) < c.he) : rSlot c k = 4 + (k : Int) := by unfold rSlot ixs; rw [if_neg (by omega)]; omega
theorem sleepers_in {c : Cfg} {k : Nat} (h : (k : Int) < c.cl) : rSleepers c k = 4 + c.he + (k : Int) := by unfold rSleepers ixs; rw [if_neg (by omega)]; omega
theorem epoch_in {c : Cfg} {k : Nat} (h : (k : Int) < c.wo) : rEpoch c k = 4 + c.he + c.cl + (k : Int) := by unfold rEpoch ixs; rw [if_neg (by omega)]; omega
theorem bitmap_in {c : Cfg} {k : Nat} (h : (k : Int) < c.wo) : rBitmap c k = 4 + c.he + c.cl + c.wo + (k : Int) := by unfold rBitmap ixs; rw [if_neg (by omega)]; omega
theorem queue_in {c : Cfg} {k v : Nat} (h : (k : Int) < c.wo) (h' : (v : Int) < c.le) : rQueue c k v = (rAt c k v, rAt c k v + 1, rAt c k v + 2, c.de) := if_pos ⟨by omega, h, by omega, h'⟩
theorem task_in {c : Cfg} (hin : CfgIn c) {k : Nat} (j : Int) (h : (k : Int) < c.ta) : rTask c k j = rDeques c + rAll c + (k : Int) * 5 + j := by
  have h1 := hin.all
  have h2 := hin.deques
  unfold rTask ixs
  rw [if_neg (show ¬ ((k : Int) < 0 ∨ c.ta ≤ (k : Int)) by omega), if_neg (by omega)]
theorem allA_step (c : Cfg) (k : Nat) : allA c (k + 1) = allA c k ++ [4 + (k : Int)] := by unfold allA; rw [rng_succ, List.append_assoc]
theorem allB_step (c : Cfg) (k : Nat) : allB c (k + 1) = allB c k ++ [4 + c.he + (k : Int)] := by unfold allB; rw [rng_succ, List.append_assoc]
theorem allB_zero (c : Cfg) : allB c 0 = allA c c.he.toNat := by simp [allB, rng]
theorem allW_zero (c : Cfg) : allW c 0 = allB c c.cl.toNat := by simp [allW, wks]
theorem allT_zero (c : Cfg) : allT c 0 = allW c c.wo.toNat := by simp [allT, tks]
theorem allT_step (c : Cfg) (k : Nat) : allT c (k + 1) = allT c k ++ tsk c k := by unfold allT tks; rw [flat_succ, List.append_assoc]
/-- Worker k, v of whose levels are done. -/
def allV (c : Cfg) (k v : Nat) : List Int := allW c k ++ [4 + c.he + c.cl + (k : Int), 4 + c.he + c.cl + c.wo + (k : Int)] ++ lev c k v
def allJ (c : Cfg) (k v j : Nat) : List Int := allV c k v ++ [rAt c k v, rAt c k v + 1] ++ rng (rAt c k v + 2) j
theorem allV_zero (c : Cfg) (k : Nat) : allV c k 0 = allW c k ++ [4 + c.he + c.cl + (k : Int), 4 + c.he + c.cl + c.wo + (k : Int)] := by simp [allV, lev]
theorem allW_step (c : Cfg) (k : Nat) : allW c (k + 1) = allV c k c.le.toNat := by unfold allV; unfold allW wks; rw [flat_succ]; simp [wkr]
theorem allV_step (c : Cfg) (k v : Nat) : allV c k (v + 1) = allJ c k v c.de.toNat := by unfold allV allJ allV lev; rw [flat_succ]; simp [dq]
theorem allJ_zero (c : Cfg) (k v : Nat) : allJ c k v 0 = allV c k v ++ [rAt c k v, rAt c k v + 1] := by simp [allJ, rng]
theorem allJ_step (c : Cfg) (k v j : Nat) : allJ c k v (j + 1) = allJ c k v j ++ [rAt c k v + 2 + (j : Int)] := by unfold allJ; rw [rng_succ]; simp
/-- All lists under way are short. -/
theorem short_all {c : Cfg} (h : CfgIn c) {l : List Int} {n : Nat} (hp : l.length + n ≤ 4 + c.he.toNat + c.cl.toNat + (c.wo.toNat + 1) * (2 + c.le.toNat * (2 + c.de.toNat)) + (c.ta.toNat + 1) * 5) : l.length + n ≤ 1000000 := by
  have h1 := h.wo
  have h2 := h.le
  have h3 := h.cl
  have h4 := h.ta
  have h5 := h.de
  have h6 := h.he
  have a1 : c.le.toNat * (2 + c.de.toNat) ≤ 64 * 66 := Nat.mul_le_mul (by omega) (by omega)
  have a2 : (c.wo.toNat + 1) * (2 + c.le.toNat * (2 + c.de.toNat)) ≤ 17 * 4226 := Nat.mul_le_mul (by omega) (by omega)
  omega

set_option maxRecDepth 20000 in
set_option maxHeartbeats 16000000 in
theorem whole_law (a : Option Addr) (L c' : Nat) (zs : List Int) (w : World) (h : InB w w.heap.size a L zs) :
    Calls Try.prog 4 #[.slice a L c'] w fun e w' => e = .returned (.bool true) ∧ Below w.heap.size w w' := by
  have H := Lib.hid h
  clear h
  by_cases hL : (L : Int) ≤ 400
  case neg =>
    have HD := Lib.hid (show decide ((L : Int) ≤ 400) = false from decide_eq_false hL)
    go_enter Try.func4, Try.ntmps4
    go_wp2_with fail
    (with_reducible refine (short_nil _ _ _).mono ?_)
    rintro e w0 ⟨rfl, rfl⟩
    rw [HD.out]
    go_wp2
    go_ret
    exact ⟨rfl, Below.refl _ _⟩
  have HD := Lib.hid (show decide ((L : Int) ≤ 400) = true from decide_eq_true hL)
  go_enter Try.func4, Try.ntmps4
  go_wp2_with fail
  (with_reducible refine (short_nil _ _ _).mono ?_)
  rintro e w0 ⟨rfl, rfl⟩
  rw [HD.out]
  go_wp2_with fail
  (with_reducible refine (config_any H.out c').mono ?_)
  rintro e w1 ⟨v, rfl, hcfg, hb⟩
  obtain ⟨c, hcd⟩ : ∃ c, decC (strm zs) = c := ⟨_, rfl⟩
  rw [hcd] at hcfg
  have hck := chk_dec (strm zs)
  rw [hcd] at hck
  have HCK := Lib.hid hck
  have HIN := Lib.hid (cfgIn_chk hck)
  obtain ⟨pa, pn, pc, sa, sn, sc, rfl, hl⟩ := hcfg.isCfg
  have H1 := Lib.hid (hl.alloc (.cells (cc c pa pn pc sa sn sc) 26))
  have X1 := Lib.hid (Blk.made w1 26 (cc c pa pn pc sa sn sc))
  have B1 := Lib.hid (hb.alloc hb.size (.cells (cc c pa pn pc sa sn sc) 26))
  clear hl hb hcd hck hcfg HD
  go_wp2_with fail
  generalize w1.alloc (.cells (cc c pa pn pc sa sn sc) 26) = W at *
  generalize w1.heap.size = g at *
  (with_reducible refine (new_any H1.out _ _).mono ?_)
  rintro e w2 ⟨rfl, hb⟩
  rw [if_pos HCK.out, HCK.out]
  have X2 := Lib.hid (X1.out.below hb)
  have B2 := Lib.hid (B1.out.trans (hb.mono B1.out.size))
  clear hb H1 X1 B1
  go_upto_region 5 with fail
  have S0 := Lib.hid (show LawS w g w2.heap.size c pa pn pc sa sn sc (w2.alloc (.cells (lcells c) 30)) from ⟨X2.out.alloc _, Blk.made w2 30 (lcells c), B2.out.alloc B2.out.size _⟩)
  generalize w2.alloc (.cells (lcells c) 30) = W2 at *
  generalize w2.heap.size = h at *
  clear X2 B2
  have hin := HIN.out
  have hcb := hin.cells
  obtain ⟨N, hN⟩ : ∃ N : Nat, rCells c = (N : Int) := ⟨(rCells c).toNat, by omega⟩
  have HN := Lib.hid hN
  have hNb : N ≤ 70000 := by omega
  clear hin hcb hN
  obtain ⟨l0, l1, l2, l3, l4, l5, l6, l7, l8⟩ := (⟨S0.out.l.at_ 0, S0.out.l.at_ 1, S0.out.l.at_ 2, S0.out.l.at_ 3, S0.out.l.at_ 4, S0.out.l.at_ 5, S0.out.l.at_ 6, S0.out.l.at_ 7, S0.out.l.at_ 8⟩ : _ ∧ _ ∧ _ ∧ _ ∧ _ ∧ _ ∧ _ ∧ _ ∧ _)
  simp only [List.getElem?_toArray, List.getElem?_cons_zero, List.getElem?_cons_succ] at l0 l1 l2 l3 l4 l5 l6 l7 l8
  go_wp2_with fail
  (with_reducible refine (lcells_any).mono ?_)
  rintro e w3 ⟨rfl, hb⟩
  rw [HN.out]
  have S1 := Lib.hid (S0.out.below hb)
  clear hb S0 l0 l1 l2 l3 l4 l5 l6 l7 l8
  go_wp2_with fail
  (with_reducible refine (awake_any _).mono ?_)
  rintro e w4 ⟨rfl, hb⟩
  have S2 := Lib.hid (S1.out.below hb)
  clear hb S1
  obtain ⟨x0, x1, x2, x3, x4, x5, x6, x7, x8, x9, x10⟩ := eleven S2.out.x
  go_wp2_with fail
  (with_reducible refine (rcells_any HIN.out).mono ?_)
  rintro e w5 ⟨rfl, hb⟩
  rw [HN.out]
  have S3 := Lib.hid (S2.out.below hb)
  clear hb S2 x0 x1 x2 x3 x4 x5 x6 x7 x8 x9 x10
  obtain ⟨i0, hi, hz0, hz1, hz2⟩ := info_parts info_int
  go_wp2_with
    (at_make
     refine wpList_make_row _ rfl _ _ 37 rfl 3 i0 _ Try.underlying37 hi hz0 hz1 rfl .i64 .i64 N rfl rfl (by rw [hz2]; omega) (by omega) ?_
     have S4 := Lib.hid (show PreS w g h w5.heap.size N c pa pn pc sa sn sc (w5.alloc (.cells (madeCells #[.int .i64 0] N) 3)) from ⟨S3.out.alloc _, World.rowIs_made w5 (.int .i64 0) N 3⟩)
     have hzb : w5.heap.size < (w5.alloc (.cells (madeCells #[.int .i64 0] N) 3)).heap.size := by simp
     have hwz : w.heap.size ≤ w5.heap.size := S3.out.b.size
     clear S3 hi hz0 hz1 hz2
     generalize w5.alloc (.cells (madeCells #[.int .i64 0] N) 3) = W5 at *
     generalize w5.heap.size = z at *)
  have S5 := Lib.hid (show PreS w g h z N c pa pn pc sa sn sc W5.drew from S4.out.below (below_drew (Below.refl _ _)))
  refine wp_region_any (by kernel_rfl) ?_
  change wpAny _ _ _ _ 10 #[false, false, false, false, false, false, false, false, false, false] _ (World.drew _)
  refine wpAny_part (S := PreS w g h z N c pa pn pc sa sn sc) 4 [0, 1, 2, 3, 4, 5, 6, 7] 2 #[true, true, true, true, true, true, true, true, false, false] (by rfl) (by kernel_rfl) (by kernel_rfl) (by kernel_rfl) (by decide) (by kernel_rfl) (by rfl) S5.out ?_
  refine SeqS.valD (v := .agg (lcells c)) 43 rfl (by kernel_rfl) (yields_row (by kernel_rfl) _ _ rfl h (by kernel_rfl) 30 _ (fun u hu => hu.s.l) _ Try.underlying30 rfl (by kernel_rfl)) ?_
  simp only [List.setIfInBounds_toArray, List.set_cons_zero, List.set_cons_succ]
  refine SeqS.callD 44 (.int .i64 0) rfl (by kernel_rfl) (by kernel_rfl) (fun u hu K hK => ?_) ?_
  · go_simp
    go_at_call 15
    (with_reducible refine (lnext_any).mono ?_)
    rintro e u1 ⟨rfl, b⟩
    exact hK.out _ _ (by kernel_rfl) (hu.below b)
  simp only [List.setIfInBounds_toArray, List.set_cons_zero, List.set_cons_succ]
  refine SeqS.valD (v := .agg (lcells c)) 45 rfl (by kernel_rfl) (yields_row (by kernel_rfl) _ _ rfl h (by kernel_rfl) 30 _ (fun u hu => hu.s.l) _ Try.underlying30 rfl (by kernel_rfl)) ?_
  simp only [List.setIfInBounds_toArray, List.set_cons_zero, List.set_cons_succ]
  refine SeqS.callD 46 (.int .i64 1) rfl (by kernel_rfl) (by kernel_rfl) (fun u hu K hK => ?_) ?_
  · go_simp
    go_at_call 16
    (with_reducible refine (llock_any).mono ?_)
    rintro e u1 ⟨rfl, b⟩
    exact hK.out _ _ (by kernel_rfl) (hu.below b)
  simp only [List.setIfInBounds_toArray, List.set_cons_zero, List.set_cons_succ]
  refine SeqS.valD (v := .agg (lcells c)) 47 rfl (by kernel_rfl) (yields_row (by kernel_rfl) _ _ rfl h (by kernel_rfl) 30 _ (fun u hu => hu.s.l) _ Try.underlying30 rfl (by kernel_rfl)) ?_
  simp only [List.setIfInBounds_toArray, List.set_cons_zero, List.set_cons_succ]
  refine SeqS.callD 48 (.int .i64 2) rfl (by kernel_rfl) (by kernel_rfl) (fun u hu K hK => ?_) ?_
  · go_simp
    go_at_call 17
    (with_reducible refine (lsize_any).mono ?_)
    rintro e u1 ⟨rfl, b⟩
    exact hK.out _ _ (by kernel_rfl) (hu.below b)
  simp only [List.setIfInBounds_toArray, List.set_cons_zero, List.set_cons_succ]
  refine SeqS.valD (v := .agg (lcells c)) 49 rfl (by kernel_rfl) (yields_row (by kernel_rfl) _ _ rfl h (by kernel_rfl) 30 _ (fun u hu => hu.s.l) _ Try.underlying30 rfl (by kernel_rfl)) ?_
  simp only [List.setIfInBounds_toArray, List.set_cons_zero, List.set_cons_succ]
  refine SeqS.callD 50 (.int .i64 3) rfl (by kernel_rfl) (by kernel_rfl) (fun u hu K hK => ?_) ?_
  · go_simp
    go_at_call 18
    (with_reducible refine (larrival_any).mono ?_)
    rintro e u1 ⟨rfl, b⟩
    exact hK.out _ _ (by kernel_rfl) (hu.below b)
  simp only [List.setIfInBounds_toArray, List.set_cons_zero, List.set_cons_succ]
  refine SeqS.done ?_
  intro W6 hW
  have S6 := Lib.hid hW
  have hzb6 : z < W6.heap.size := hW.z.lt
  clear hW S5 S4 hzb
  refine wpAny_one (i := 8) (by kernel_rfl) rfl (by kernel_rfl) (fun K hK => ?_)
  go_simp
  refine hK.out _ _ ?_
  clear hK K
  simp only [List.getElem_toArray, List.getElem_cons_succ, List.getElem_cons_zero, Act.put, List.setIfInBounds_toArray, List.set_cons_zero, List.set_cons_succ]
  have A0 := Lib.hid (show WhS w g h z N W6.heap.size c pa pn pc sa sn sc (allA c 0) (.slice (some ⟨W6.heap.size, 0, none⟩) 4 4) (W6.alloc (.cells #[.int .i64 0, .int .i64 1, .int .i64 2, .int .i64 3] 3)) from ⟨S6.out.below (below_one _ _), OwnI.lit W6 W6.heap.size [0, 1, 2, 3] (Nat.le_refl _) (by unfold maxLen; simp), hzb6, by omega, by simp⟩)
  refine wpAny_take (i := 9) (v := .slice (some ⟨W6.heap.size, 0, none⟩) 4 4) rfl (by kernel_rfl) (by kernel_rfl) (by kernel_rfl) (fun _ _ _ h => h) (Or.inl ⟨by kernel_rfl, fun u => by (go_simp)⟩) ?_
  simp only [List.getElem_toArray, List.getElem_cons_succ, List.getElem_cons_zero, Act.put, List.setIfInBounds_toArray, List.set_cons_zero, List.set_cons_succ]
  refine wpAny_done (by kernel_rfl) ?_ _
  generalize W6.alloc (.cells #[.int .i64 0, .int .i64 1, .int .i64 2, .int .i64 3] 3) = W7 at *
  generalize W6.heap.size = base at *
  clear S6
  go_wp2_with fail
  go_loopw [8, 9] (fun v i wr => WhR w g h z N base c pa pn pc sa sn sc (allA c) c.he.toNat v i wr) (fun _ i _ => c.he.toNat - (intOf i).toNat)
  case atStart => exact ⟨0, by omega, rfl, A0.out⟩
  case round =>
    obtain ⟨k, hk, rfl, hA⟩ := hrel
    have A1 := Lib.hid hA
    clear hA A0
    have hf := HIN.out.he
    have hkc : ((c.he.toNat : Nat) : Int) = c.he := toNat_cast (by omega)
    obtain ⟨l0, l1, l2, l3, l4, l5, l6, l7, l8⟩ := (⟨A1.out.p.s.l.at_ 0, A1.out.p.s.l.at_ 1, A1.out.p.s.l.at_ 2, A1.out.p.s.l.at_ 3, A1.out.p.s.l.at_ 4, A1.out.p.s.l.at_ 5, A1.out.p.s.l.at_ 6, A1.out.p.s.l.at_ 7, A1.out.p.s.l.at_ 8⟩ : _ ∧ _ ∧ _ ∧ _ ∧ _ ∧ _ ∧ _ ∧ _ ∧ _)
    simp only [List.getElem?_toArray, List.getElem?_cons_zero, List.getElem?_cons_succ] at l0 l1 l2 l3 l4 l5 l6 l7 l8
    obtain ⟨x0, x1, x2, x3, x4, x5, x6, x7, x8, x9, x10⟩ := eleven A1.out.p.s.x
    by_cases hlt : (k : Int) < c.he
    · have HV := Lib.hid (slot_in hlt)
      go_wp2_with fail
      (with_reducible refine (lslot_any HIN.out _).mono ?_)
      rintro e w8 ⟨rfl, hb⟩
      rw [HV.out]
      have A2 := A1.out.below hb
      have A3 := A2.alloc (.cells #[.int .i64 (4 + (k : Int))] 3)
      have hn : (allA c k).length + 1 ≤ 1000000 := short_all HIN.out (by rw [allA_length]; omega)
      clear hb l0 l1 l2 l3 l4 l5 l6 l7 l8 x0 x1 x2 x3 x4 x5 x6 x7 x8 x9 x10
      go_wp2_with
        (at_builtin
         refine wpList_appI rfl _ _ rfl rfl A3.o (ns := [4 + (k : Int)]) rfl rfl (ints_new w8 [4 + (k : Int)]) hn A3.bu ?_
         intro v9 w9 hown9 hg9
         have A4 := Lib.hid (A3.app hown9 hg9)
         clear hown9 hg9 A2 A3)
      go_roundw
      case rel => exact ⟨k + 1, by omega, by go_num, by rw [allA_step]; exact A4.out⟩
      case measure => simp [intOf]; omega
    · obtain rfl : k = c.he.toNat := by omega
      go_wp2_with fail
      clear l0 l1 l2 l3 l4 l5 l6 l7 l8 x0 x1 x2 x3 x4 x5 x6 x7 x8 x9 x10 hlt hk hf hkc
      have A0 := Lib.hid (show WhS w g h z N base c pa pn pc sa sn sc (allB c 0) _ _ from by rw [allB_zero]; exact A1.out)
      clear A1
      go_loopw [8, 10] (fun v i wr => WhR w g h z N base c pa pn pc sa sn sc (allB c) c.cl.toNat v i wr) (fun _ i _ => c.cl.toNat - (intOf i).toNat)
      case atStart => exact ⟨0, by omega, rfl, A0.out⟩
      case round =>
        obtain ⟨k, hk, rfl, hA⟩ := hrel
        have A1 := Lib.hid hA
        clear hA A0
        have hf := HIN.out.cl
        have hkc : ((c.cl.toNat : Nat) : Int) = c.cl := toNat_cast (by omega)
        obtain ⟨l0, l1, l2, l3, l4, l5, l6, l7, l8⟩ := (⟨A1.out.p.s.l.at_ 0, A1.out.p.s.l.at_ 1, A1.out.p.s.l.at_ 2, A1.out.p.s.l.at_ 3, A1.out.p.s.l.at_ 4, A1.out.p.s.l.at_ 5, A1.out.p.s.l.at_ 6, A1.out.p.s.l.at_ 7, A1.out.p.s.l.at_ 8⟩ : _ ∧ _ ∧ _ ∧ _ ∧ _ ∧ _ ∧ _ ∧ _ ∧ _)
        simp only [List.getElem?_toArray, List.getElem?_cons_zero, List.getElem?_cons_succ] at l0 l1 l2 l3 l4 l5 l6 l7 l8
        obtain ⟨x0, x1, x2, x3, x4, x5, x6, x7, x8, x9, x10⟩ := eleven A1.out.p.s.x
        by_cases hlt : (k : Int) < c.cl
        · have HV := Lib.hid (sleepers_in hlt)
          go_wp2_with fail
          (with_reducible refine (lsleepers_any HIN.out _).mono ?_)
          rintro e w8 ⟨rfl, hb⟩
          rw [HV.out]
          have A2 := A1.out.below hb
          have A3 := A2.alloc (.cells #[.int .i64 (4 + c.he + (k : Int))] 3)
          have hn : (allB c k).length + 1 ≤ 1000000 := short_all HIN.out (by rw [allB_length]; omega)
          clear hb l0 l1 l2 l3 l4 l5 l6 l7 l8 x0 x1 x2 x3 x4 x5 x6 x7 x8 x9 x10
          go_wp2_with
            (at_builtin
             refine wpList_appI rfl _ _ rfl rfl A3.o (ns := [4 + c.he + (k : Int)]) rfl rfl (ints_new w8 [4 + c.he + (k : Int)]) hn A3.bu ?_
             intro v9 w9 hown9 hg9
             have A4 := Lib.hid (A3.app hown9 hg9)
             clear hown9 hg9 A2 A3)
          go_roundw
          case rel => exact ⟨k + 1, by omega, by go_num, by rw [allB_step]; exact A4.out⟩
          case measure => simp [intOf]; omega
        · obtain rfl : k = c.cl.toNat := by omega
          go_wp2_with fail
          clear l0 l1 l2 l3 l4 l5 l6 l7 l8 x0 x1 x2 x3 x4 x5 x6 x7 x8 x9 x10 hlt hk hf hkc
          have A0 := Lib.hid (show WhS w g h z N base c pa pn pc sa sn sc (allW c 0) _ _ from by rw [allW_zero]; exact A1.out)
          clear A1
          go_loopw [8, 11] (fun v i wr => WhR w g h z N base c pa pn pc sa sn sc (allW c) c.wo.toNat v i wr) (fun _ i _ => c.wo.toNat - (intOf i).toNat)
          case atStart => exact ⟨0, by omega, rfl, A0.out⟩
          case round =>
            obtain ⟨k, hk, rfl, hA⟩ := hrel
            have A1 := Lib.hid hA
            clear hA A0
            have hf := HIN.out.wo
            have hkc : ((c.wo.toNat : Nat) : Int) = c.wo := toNat_cast (by omega)
            obtain ⟨x0, x1, x2, x3, x4, x5, x6, x7, x8, x9, x10⟩ := eleven A1.out.p.s.x
            by_cases hlt : (k : Int) < c.wo
            · have HE := Lib.hid (epoch_in hlt)
              have HM := Lib.hid (bitmap_in hlt)
              go_wp2_with fail
              clear x0 x1 x2 x3 x4 x5 x6 x7 x8 x9 x10
              have D1 := Lib.hid A1.out.drew
              clear A1
              refine wp_region_any (by kernel_rfl) ?_
              change wpAny _ _ _ _ 10 #[false, false, false, false, false, false, false, false, false, false] _ (World.drew _)
              refine wpAny_take (i := 0) (v := u8) rfl (by kernel_rfl) (by kernel_rfl) (by kernel_rfl) (fun _ _ _ h => h) (Or.inl ⟨by kernel_rfl, fun u => by (go_simp)⟩) ?_
              simp only [List.getElem_toArray, List.getElem_cons_succ, List.getElem_cons_zero, Act.put, List.setIfInBounds_toArray, List.set_cons_zero, List.set_cons_succ]
              refine wpAny_part (S := (fun u => WhS w g h z N base c pa pn pc sa sn sc (allW c k) u8 u)) 4 [1, 2, 3, 4, 5, 6] 3 #[true, true, true, true, true, true, true, false, false, false] (by rfl) (by kernel_rfl) (by kernel_rfl) (by kernel_rfl) (by decide) (by kernel_rfl) (by rfl) D1.out ?_
              refine SeqS.valD (v := .agg (lcells c)) 83 rfl (by kernel_rfl) (yields_row (by kernel_rfl) _ _ rfl h (by kernel_rfl) 30 _ (fun u hu => hu.p.s.l) _ Try.underlying30 rfl (by kernel_rfl)) ?_
              simp only [List.setIfInBounds_toArray, List.set_cons_zero, List.set_cons_succ]
              refine SeqS.valD (v := .int .i64 (k : Int)) 84 rfl (by kernel_rfl) (Or.inl ⟨by kernel_rfl, fun u hu => by (go_simp)⟩) ?_
              simp only [List.setIfInBounds_toArray, List.set_cons_zero, List.set_cons_succ]
              refine SeqS.callD 85 (.int .i64 (4 + c.he + c.cl + (k : Int))) rfl (by kernel_rfl) (by kernel_rfl) (fun u hu K hK => ?_) ?_
              · go_simp
                go_at_call 21
                (with_reducible refine (lepoch_any HIN.out _).mono ?_)
                rintro e u1 ⟨rfl, b⟩
                rw [HE.out]
                exact hK.out _ _ (by kernel_rfl) (WhS.below hu b)
              simp only [List.setIfInBounds_toArray, List.set_cons_zero, List.set_cons_succ]
              refine SeqS.valD (v := .agg (lcells c)) 86 rfl (by kernel_rfl) (yields_row (by kernel_rfl) _ _ rfl h (by kernel_rfl) 30 _ (fun u hu => hu.p.s.l) _ Try.underlying30 rfl (by kernel_rfl)) ?_
              simp only [List.setIfInBounds_toArray, List.set_cons_zero, List.set_cons_succ]
              refine SeqS.valD (v := .int .i64 (k : Int)) 87 rfl (by kernel_rfl) (Or.inl ⟨by kernel_rfl, fun u hu => by (go_simp)⟩) ?_
              simp only [List.setIfInBounds_toArray, List.set_cons_zero, List.set_cons_succ]
              refine SeqS.callD 88 (.int .i64 (4 + c.he + c.cl + c.wo + (k : Int))) rfl (by kernel_rfl) (by kernel_rfl) (fun u hu K hK => ?_) ?_
              · go_simp
                go_at_call 22
                (with_reducible refine (lbitmap_any HIN.out _).mono ?_)
                rintro e u1 ⟨rfl, b⟩
                rw [HM.out]
                exact hK.out _ _ (by kernel_rfl) (WhS.below hu b)
              simp only [List.setIfInBounds_toArray, List.set_cons_zero, List.set_cons_succ]
              refine SeqS.done ?_
              intro W8 hW
              have A2 := Lib.hid hW
              clear hW D1
              refine wpAny_one (i := 7) (by kernel_rfl) rfl (by kernel_rfl) (fun K hK => ?_)
              go_simp
              refine hK.out _ _ ?_
              clear hK K
              simp only [List.getElem_toArray, List.getElem_cons_succ, List.getElem_cons_zero, Act.put, List.setIfInBounds_toArray, List.set_cons_zero, List.set_cons_succ]
              have A3 := A2.out.alloc (.cells #[.int .i64 (4 + c.he + c.cl + (k : Int)), .int .i64 (4 + c.he + c.cl + c.wo + (k : Int))] 3)
              have hn : (allW c k).length + 2 ≤ 1000000 := short_all HIN.out (by rw [allW_length]; have := Nat.mul_le_mul_right (2 + c.le.toNat * (2 + c.de.toNat)) (show k ≤ c.wo.toNat by omega); rw [Nat.succ_mul]; omega)
              refine wpAny_one (i := 8) (by kernel_rfl) rfl (by kernel_rfl) (fun K hK => ?_)
              refine wp_appI (v := u8) (ad := ⟨W8.heap.size, 0, none⟩) (m := 2) (c := 2) _ _ rfl (by kernel_rfl) A3.o (ns := [4 + c.he + c.cl + (k : Int), 4 + c.he + c.cl + c.wo + (k : Int)]) (by kernel_rfl) rfl (ints_new W8 [4 + c.he + c.cl + (k : Int), 4 + c.he + c.cl + c.wo + (k : Int)]) hn A3.bu ?_
              intro v9 w9 hown9 hg9
              have A4 := Lib.hid (show WhS w g h z N base c pa pn pc sa sn sc (allV c k 0) v9 w9 from by rw [allV_zero]; exact A3.app hown9 hg9)
              clear hown9 hg9 A2 A3
              refine hK.out _ _ ?_
              clear hK K
              simp only [List.getElem_toArray, List.getElem_cons_succ, List.getElem_cons_zero, Act.put, List.setIfInBounds_toArray, List.set_cons_zero, List.set_cons_succ]
              refine wpAny_take (i := 9) (v := v9) rfl (by kernel_rfl) (by kernel_rfl) (by kernel_rfl) (fun _ _ _ h => h) (Or.inl ⟨by kernel_rfl, fun u => by (go_simp)⟩) ?_
              simp only [List.getElem_toArray, List.getElem_cons_succ, List.getElem_cons_zero, Act.put, List.setIfInBounds_toArray, List.set_cons_zero, List.set_cons_succ]
              refine wpAny_done (by kernel_rfl) ?_ _
              go_wp2_with fail
              have hle := HIN.out.le
              have hlc : ((c.le.toNat : Nat) : Int) = c.le := toNat_cast (by omega)
              have hde := HIN.out.de
              have hdc : ((c.de.toNat : Nat) : Int) = c.de := toNat_cast (by omega)
              go_loopw [8, 12] (fun v i wr => WhR w g h z N base c pa pn pc sa sn sc (allV c k) c.le.toNat v i wr) (fun _ i _ => c.le.toNat - (intOf i).toNat)
              case atStart => exact ⟨0, by omega, rfl, A4.out⟩
              case round =>
                obtain ⟨m, hm, rfl, hA⟩ := hrel
                have A1 := Lib.hid hA
                clear hA A4
                obtain ⟨l0, l1, l2, l3, l4, l5, l6, l7, l8⟩ := (⟨A1.out.p.s.l.at_ 0, A1.out.p.s.l.at_ 1, A1.out.p.s.l.at_ 2, A1.out.p.s.l.at_ 3, A1.out.p.s.l.at_ 4, A1.out.p.s.l.at_ 5, A1.out.p.s.l.at_ 6, A1.out.p.s.l.at_ 7, A1.out.p.s.l.at_ 8⟩ : _ ∧ _ ∧ _ ∧ _ ∧ _ ∧ _ ∧ _ ∧ _ ∧ _)
                simp only [List.getElem?_toArray, List.getElem?_cons_zero, List.getElem?_cons_succ] at l0 l1 l2 l3 l4 l5 l6 l7 l8
                obtain ⟨x0, x1, x2, x3, x4, x5, x6, x7, x8, x9, x10⟩ := eleven A1.out.p.s.x
                by_cases hlv : (m : Int) < c.le
                · have HQ := Lib.hid (queue_in hlt hlv)
                  have hat := HIN.out.at_ (w := k) (l := m) ⟨by omega, hlt, by omega, hlv⟩
                  have hal := HIN.out.all
                  have hdq := HIN.out.deques
                  have hrt : rAt c k m = rDeques c + ((k : Int) * c.le + m) * (2 + c.de) := rfl
                  have hr0 : 0 ≤ rAt c k m ∧ rAt c k m ≤ 68000 := by omega
                  clear hat hal hdq
                  go_wp2_with fail
                  (with_reducible refine (lqueue_any HIN.out _ _).mono ?_)
                  rintro e w8 ⟨rfl, hb⟩
                  rw [HQ.out]
                  obtain ⟨T, hT⟩ : ∃ T, rAt c k m = T := ⟨_, rfl⟩
                  rw [hT] at hr0 ⊢
                  have HT := Lib.hid hT
                  have A2 := A1.out.below hb
                  have A3 := A2.alloc (.cells (qcells T (T + 1) (T + 2) c.de) 44)
                  have Q3 := Blk.made w8 44 (qcells T (T + 1) (T + 2) c.de)
                  have hqz : w8.heap.size < (w8.alloc (.cells (qcells T (T + 1) (T + 2) c.de) 44)).heap.size := by simp
                  clear hb hT hrt A1 l0 l1 l2 l3 l4 l5 l6 l7 l8 x0 x1 x2 x3 x4 x5 x6 x7 x8 x9 x10
                  go_upto_region 26 with fail
                  generalize w8.alloc (.cells (qcells T (T + 1) (T + 2) c.de) 44) = W9 at *
                  generalize w8.heap.size = q at *
                  have q0 : W9.cell? ⟨q, 0, none⟩ = some (.int .i64 T) := Q3.at_ 0
                  have q1 : W9.cell? ⟨q, 1, none⟩ = some (.int .i64 (T + 1)) := Q3.at_ 1
                  have A4 := A3.alloc (.cells #[.int .i64 T, .int .i64 (T + 1)] 3)
                  have Q4 := Q3.alloc (.cells #[.int .i64 T, .int .i64 (T + 1)] 3)
                  have hn : (allV c k m).length + 2 ≤ 1000000 := short_all HIN.out (by have e1 := Nat.mul_le_mul_right (2 + c.le.toNat * (2 + c.de.toNat)) (show k + 1 ≤ c.wo.toNat by omega); have e2 := Nat.mul_le_mul_right (2 + c.de.toNat) (show m + 1 ≤ c.le.toNat by omega); rw [Nat.succ_mul] at e1 e2; rw [Nat.succ_mul]; simp only [allV, List.length_append, allW_length, lev_length, List.length_cons, List.length_nil]; omega)
                  go_wp2_with
                    (at_builtin
                     refine wpList_appI rfl _ _ rfl rfl A4.o (ns := [T, T + 1]) rfl rfl (ints_new W9 [T, T + 1]) hn A4.bu ?_
                     intro v9 w9 hown9 hg9
                     have A5 := Lib.hid (show WhS w g h z N base c pa pn pc sa sn sc (allJ c k m 0) v9 w9 from by rw [allJ_zero, HT.out]; exact A4.app hown9 hg9)
                     have Q5 := Lib.hid (Q4.appI A4.o hg9 (.inl (by decide)))
                     clear hown9 hg9 A2 A3 A4 Q3 Q4 q0 q1)
                  go_loopw [8, 14] (fun v i wr => WhQ w g h z N base c pa pn pc sa sn sc (allJ c k m) c.de.toNat q T (T + 1) (T + 2) c.de v i wr) (fun _ i _ => c.de.toNat - (intOf i).toNat)
                  case atStart => exact ⟨0, by omega, rfl, A5.out, Q5.out⟩
                  case round =>
                    obtain ⟨j, hj, rfl, hA, hQ⟩ := hrel
                    have A1 := Lib.hid hA
                    have Q1 := Lib.hid hQ
                    clear hA hQ A5 Q5
                    obtain ⟨x0, x1, x2, x3, x4, x5, x6, x7, x8, x9, x10⟩ := eleven A1.out.p.s.x
                    have q2 := Q1.out.at_ 2
                    have q3 := Q1.out.at_ 3
                    simp only [List.getElem?_toArray, List.getElem?_cons_zero, List.getElem?_cons_succ] at q2 q3
                    by_cases hlj : (j : Int) < c.de
                    · have A3 := A1.out.alloc (.cells #[.int .i64 (T + 2 + (j : Int))] 3)
                      have Q3 := Q1.out.alloc (.cells #[.int .i64 (T + 2 + (j : Int))] 3)
                      have hn : (allJ c k m j).length + 1 ≤ 1000000 := short_all HIN.out (by have e1 := Nat.mul_le_mul_right (2 + c.le.toNat * (2 + c.de.toNat)) (show k + 1 ≤ c.wo.toNat by omega); have e2 := Nat.mul_le_mul_right (2 + c.de.toNat) (show m + 1 ≤ c.le.toNat by omega); rw [Nat.succ_mul] at e1 e2; rw [Nat.succ_mul]; simp only [allJ, allV, List.length_append, allW_length, lev_length, List.length_cons, List.length_nil, rng_length]; omega)
                      go_wp2_with
                        (at_builtin
                         refine wpList_appI rfl _ _ rfl rfl A3.o (ns := [T + 2 + (j : Int)]) rfl rfl (ints_new wr [T + 2 + (j : Int)]) hn A3.bu ?_
                         intro v9 w9 hown9 hg9
                         have A5 := Lib.hid (show WhS w g h z N base c pa pn pc sa sn sc (allJ c k m (j + 1)) v9 w9 from by rw [allJ_step, HT.out]; exact A3.app hown9 hg9)
                         have Q5 := Lib.hid (Q3.appI A3.o hg9 (.inl (by decide)))
                         clear hown9 hg9 A3 Q3)
                      go_roundw
                      case rel => exact ⟨j + 1, by omega, by go_num, A5.out, Q5.out⟩
                      case measure => simp [intOf]; omega
                    · obtain rfl : j = c.de.toNat := by omega
                      go_wp2_with fail
                      go_roundw
                      case rel => exact ⟨m + 1, by omega, by go_num, by rw [allV_step]; exact A1.out⟩
                      case measure => simp [intOf]; omega
                · obtain rfl : m = c.le.toNat := by omega
                  go_wp2_with fail
                  go_roundw
                  case rel => exact ⟨k + 1, by omega, by go_num, by rw [allW_step]; exact A1.out⟩
                  case measure => simp [intOf]; omega
            · obtain rfl : k = c.wo.toNat := by omega
              go_wp2_with fail
              clear x0 x1 x2 x3 x4 x5 x6 x7 x8 x9 x10 hlt hk hf hkc
              have A0 := Lib.hid (show WhS w g h z N base c pa pn pc sa sn sc (allT c 0) _ _ from by rw [allT_zero]; exact A1.out)
              clear A1
              go_loopw [8, 15] (fun v i wr => WhR w g h z N base c pa pn pc sa sn sc (allT c) c.ta.toNat v i wr) (fun _ i _ => c.ta.toNat - (intOf i).toNat)
              case atStart => exact ⟨0, by omega, rfl, A0.out⟩
              case round =>
                obtain ⟨k, hk, rfl, hA⟩ := hrel
                have A1 := Lib.hid hA
                clear hA A0
                have hf := HIN.out.ta
                have hkc : ((c.ta.toNat : Nat) : Int) = c.ta := toNat_cast (by omega)
                obtain ⟨x0, x1, x2, x3, x4, x5, x6, x7, x8, x9, x10⟩ := eleven A1.out.p.s.x
                by_cases hlt : (k : Int) < c.ta
                · have HV0 := Lib.hid (show rTask c k 0 = rDeques c + rAll c + (k : Int) * 5 by rw [task_in HIN.out 0 hlt, Int.add_zero])
                  have HV1 := Lib.hid (task_in HIN.out 1 hlt)
                  have HV2 := Lib.hid (task_in HIN.out 2 hlt)
                  have HV3 := Lib.hid (task_in HIN.out 3 hlt)
                  have HV4 := Lib.hid (task_in HIN.out 4 hlt)
                  go_wp2_with fail
                  clear x0 x1 x2 x3 x4 x5 x6 x7 x8 x9 x10
                  have D1 := Lib.hid A1.out.drew
                  clear A1
                  refine wp_region_any (by kernel_rfl) ?_
                  change wpAny _ _ _ _ 19 #[false, false, false, false, false, false, false, false, false, false, false, false, false, false, false, false, false, false, false] _ (World.drew _)
                  refine wpAny_take (i := 0) (v := u8) rfl (by kernel_rfl) (by kernel_rfl) (by kernel_rfl) (fun _ _ _ h => h) (Or.inl ⟨by kernel_rfl, fun u => by (go_simp)⟩) ?_
                  simp only [List.getElem_toArray, List.getElem_cons_succ, List.getElem_cons_zero, Act.put, List.setIfInBounds_toArray, List.set_cons_zero, List.set_cons_succ]
                  refine wpAny_part (S := (fun u => WhS w g h z N base c pa pn pc sa sn sc (allT c k) u8 u)) 4 [1, 2, 3, 4, 5, 6, 7, 8, 9, 10, 11, 12, 13, 14, 15] 3 #[true, true, true, true, true, true, true, true, true, true, true, true, true, true, true, true, false, false, false] (by rfl) (by kernel_rfl) (by kernel_rfl) (by kernel_rfl) (by decide) (by kernel_rfl) (by rfl) D1.out ?_
                  refine SeqS.valD (v := .agg (lcells c)) 134 rfl (by kernel_rfl) (yields_row (by kernel_rfl) _ _ rfl h (by kernel_rfl) 30 _ (fun u hu => hu.p.s.l) _ Try.underlying30 rfl (by kernel_rfl)) ?_
                  simp only [List.setIfInBounds_toArray, List.set_cons_zero, List.set_cons_succ]
                  refine SeqS.valD (v := .int .i64 (k : Int)) 135 rfl (by kernel_rfl) (Or.inl ⟨by kernel_rfl, fun u hu => by (go_simp)⟩) ?_
                  simp only [List.setIfInBounds_toArray, List.set_cons_zero, List.set_cons_succ]
                  refine SeqS.callD 136 (.int .i64 (rDeques c + rAll c + (k : Int) * 5)) rfl (by kernel_rfl) (by kernel_rfl) (fun u hu K hK => ?_) ?_
                  · go_simp
                    go_at_call 24
                    (with_reducible refine (lstate_any HIN.out _).mono ?_)
                    rintro e u1 ⟨rfl, b⟩
                    rw [HV0.out]
                    exact hK.out _ _ (by kernel_rfl) (WhS.below hu b)
                  simp only [List.setIfInBounds_toArray, List.set_cons_zero, List.set_cons_succ]
                  refine SeqS.valD (v := .agg (lcells c)) 137 rfl (by kernel_rfl) (yields_row (by kernel_rfl) _ _ rfl h (by kernel_rfl) 30 _ (fun u hu => hu.p.s.l) _ Try.underlying30 rfl (by kernel_rfl)) ?_
                  simp only [List.setIfInBounds_toArray, List.set_cons_zero, List.set_cons_succ]
                  refine SeqS.valD (v := .int .i64 (k : Int)) 138 rfl (by kernel_rfl) (Or.inl ⟨by kernel_rfl, fun u hu => by (go_simp)⟩) ?_
                  simp only [List.setIfInBounds_toArray, List.set_cons_zero, List.set_cons_succ]
                  refine SeqS.callD 139 (.int .i64 (rDeques c + rAll c + (k : Int) * 5 + 1)) rfl (by kernel_rfl) (by kernel_rfl) (fun u hu K hK => ?_) ?_
                  · go_simp
                    go_at_call 25
                    (with_reducible refine (llevel_any HIN.out _).mono ?_)
                    rintro e u1 ⟨rfl, b⟩
                    rw [HV1.out]
                    exact hK.out _ _ (by kernel_rfl) (WhS.below hu b)
                  simp only [List.setIfInBounds_toArray, List.set_cons_zero, List.set_cons_succ]
                  refine SeqS.valD (v := .agg (lcells c)) 140 rfl (by kernel_rfl) (yields_row (by kernel_rfl) _ _ rfl h (by kernel_rfl) 30 _ (fun u hu => hu.p.s.l) _ Try.underlying30 rfl (by kernel_rfl)) ?_
                  simp only [List.setIfInBounds_toArray, List.set_cons_zero, List.set_cons_succ]
                  refine SeqS.valD (v := .int .i64 (k : Int)) 141 rfl (by kernel_rfl) (Or.inl ⟨by kernel_rfl, fun u hu => by (go_simp)⟩) ?_
                  simp only [List.setIfInBounds_toArray, List.set_cons_zero, List.set_cons_succ]
                  refine SeqS.callD 142 (.int .i64 (rDeques c + rAll c + (k : Int) * 5 + 2)) rfl (by kernel_rfl) (by kernel_rfl) (fun u hu K hK => ?_) ?_
                  · go_simp
                    go_at_call 26
                    (with_reducible refine (ljoin_any HIN.out _).mono ?_)
                    rintro e u1 ⟨rfl, b⟩
                    rw [HV2.out]
                    exact hK.out _ _ (by kernel_rfl) (WhS.below hu b)
                  simp only [List.setIfInBounds_toArray, List.set_cons_zero, List.set_cons_succ]
                  refine SeqS.valD (v := .agg (lcells c)) 143 rfl (by kernel_rfl) (yields_row (by kernel_rfl) _ _ rfl h (by kernel_rfl) 30 _ (fun u hu => hu.p.s.l) _ Try.underlying30 rfl (by kernel_rfl)) ?_
                  simp only [List.setIfInBounds_toArray, List.set_cons_zero, List.set_cons_succ]
                  refine SeqS.valD (v := .int .i64 (k : Int)) 144 rfl (by kernel_rfl) (Or.inl ⟨by kernel_rfl, fun u hu => by (go_simp)⟩) ?_
                  simp only [List.setIfInBounds_toArray, List.set_cons_zero, List.set_cons_succ]
                  refine SeqS.callD 145 (.int .i64 (rDeques c + rAll c + (k : Int) * 5 + 3)) rfl (by kernel_rfl) (by kernel_rfl) (fun u hu K hK => ?_) ?_
                  · go_simp
                    go_at_call 27
                    (with_reducible refine (lwaits_any HIN.out _).mono ?_)
                    rintro e u1 ⟨rfl, b⟩
                    rw [HV3.out]
                    exact hK.out _ _ (by kernel_rfl) (WhS.below hu b)
                  simp only [List.setIfInBounds_toArray, List.set_cons_zero, List.set_cons_succ]
                  refine SeqS.valD (v := .agg (lcells c)) 146 rfl (by kernel_rfl) (yields_row (by kernel_rfl) _ _ rfl h (by kernel_rfl) 30 _ (fun u hu => hu.p.s.l) _ Try.underlying30 rfl (by kernel_rfl)) ?_
                  simp only [List.setIfInBounds_toArray, List.set_cons_zero, List.set_cons_succ]
                  refine SeqS.valD (v := .int .i64 (k : Int)) 147 rfl (by kernel_rfl) (Or.inl ⟨by kernel_rfl, fun u hu => by (go_simp)⟩) ?_
                  simp only [List.setIfInBounds_toArray, List.set_cons_zero, List.set_cons_succ]
                  refine SeqS.callD 148 (.int .i64 (rDeques c + rAll c + (k : Int) * 5 + 4)) rfl (by kernel_rfl) (by kernel_rfl) (fun u hu K hK => ?_) ?_
                  · go_simp
                    go_at_call 28
                    (with_reducible refine (lsince_any HIN.out _).mono ?_)
                    rintro e u1 ⟨rfl, b⟩
                    rw [HV4.out]
                    exact hK.out _ _ (by kernel_rfl) (WhS.below hu b)
                  simp only [List.setIfInBounds_toArray, List.set_cons_zero, List.set_cons_succ]
                  refine SeqS.done ?_
                  intro W8 hW
                  have A2 := Lib.hid hW
                  clear hW D1
                  refine wpAny_one (i := 16) (by kernel_rfl) rfl (by kernel_rfl) (fun K hK => ?_)
                  go_simp
                  refine hK.out _ _ ?_
                  clear hK K
                  simp only [List.getElem_toArray, List.getElem_cons_succ, List.getElem_cons_zero, Act.put, List.setIfInBounds_toArray, List.set_cons_zero, List.set_cons_succ]
                  have A3 := A2.out.alloc (.cells #[.int .i64 (rDeques c + rAll c + (k : Int) * 5), .int .i64 (rDeques c + rAll c + (k : Int) * 5 + 1), .int .i64 (rDeques c + rAll c + (k : Int) * 5 + 2), .int .i64 (rDeques c + rAll c + (k : Int) * 5 + 3), .int .i64 (rDeques c + rAll c + (k : Int) * 5 + 4)] 3)
                  have hn : (allT c k).length + 5 ≤ 1000000 := short_all HIN.out (by rw [allT_length, Nat.succ_mul]; omega)
                  refine wpAny_one (i := 17) (by kernel_rfl) rfl (by kernel_rfl) (fun K hK => ?_)
                  refine wp_appI (v := u8) (ad := ⟨W8.heap.size, 0, none⟩) (m := 5) (c := 5) _ _ rfl (by kernel_rfl) A3.o (ns := [rDeques c + rAll c + (k : Int) * 5, rDeques c + rAll c + (k : Int) * 5 + 1, rDeques c + rAll c + (k : Int) * 5 + 2, rDeques c + rAll c + (k : Int) * 5 + 3, rDeques c + rAll c + (k : Int) * 5 + 4]) (by kernel_rfl) rfl (ints_new W8 [rDeques c + rAll c + (k : Int) * 5, rDeques c + rAll c + (k : Int) * 5 + 1, rDeques c + rAll c + (k : Int) * 5 + 2, rDeques c + rAll c + (k : Int) * 5 + 3, rDeques c + rAll c + (k : Int) * 5 + 4]) hn A3.bu ?_
                  intro v9 w9 hown9 hg9
                  have A4 := Lib.hid (show WhS w g h z N base c pa pn pc sa sn sc (allT c (k + 1)) v9 w9 from by rw [allT_step]; exact A3.app hown9 hg9)
                  clear hown9 hg9 A2 A3
                  refine hK.out _ _ ?_
                  clear hK K
                  simp only [List.getElem_toArray, List.getElem_cons_succ, List.getElem_cons_zero, Act.put, List.setIfInBounds_toArray, List.set_cons_zero, List.set_cons_succ]
                  refine wpAny_take (i := 18) (v := v9) rfl (by kernel_rfl) (by kernel_rfl) (by kernel_rfl) (fun _ _ _ h => h) (Or.inl ⟨by kernel_rfl, fun u => by (go_simp)⟩) ?_
                  simp only [List.getElem_toArray, List.getElem_cons_succ, List.getElem_cons_zero, Act.put, List.setIfInBounds_toArray, List.set_cons_zero, List.set_cons_succ]
                  refine wpAny_done (by kernel_rfl) ?_ _
                  go_wp2_with fail
                  go_roundw
                  case rel => exact ⟨k + 1, by omega, by go_num, A4.out⟩
                  case measure => simp [intOf]; omega
                · obtain rfl : k = c.ta.toNat := by omega
                  go_wp2_with fail
                  clear x0 x1 x2 x3 x4 x5 x6 x7 x8 x9 x10 hlt hk hf hkc
                  obtain ⟨l, hl⟩ : ∃ l, allT c c.ta.toNat = l := ⟨_, rfl⟩
                  have hA := A1.out
                  have hlen := all_length HIN.out
                  have HIX := Lib.hid (all_in HIN.out)
                  have HNW := Lib.hid (all_new HIN.out)
                  rw [hl] at hA hlen HIX HNW
                  rw [HN.out] at hlen
                  have hlN : l.length = N := by omega
                  have HLN := Lib.hid hlN
                  clear hlen hlN
                  obtain ⟨gq, cv, hv⟩ := hA.o.at0 (by have h4 := HIN.out.cells; have h5 := HN.out; have h6 := HLN.out; omega)
                  have Z0 := Lib.hid (show SeenS w z N base (.slice (some ⟨gq, 0, none⟩) l.length cv) l 0 wr from ⟨hA.p.z.congr (fun i _ => by simp), hv ▸ hA.o, hA.p.s.b⟩)
                  have HZB := Lib.hid hA.zb
                  rw [hv]
                  clear hA A1 hl hv
                  go_loopw [16] (fun i wr => ∃ k : Nat, k ≤ l.length ∧ i = .int .i64 k ∧ SeenS w z N base (.slice (some ⟨gq, 0, none⟩) l.length cv) l k wr) (fun i _ => l.length - (intOf i).toNat)
                  case atStart => exact ⟨0, Nat.zero_le _, rfl, Z0.out⟩
                  case round =>
                    obtain ⟨k, hk, rfl, hZ⟩ := hrel
                    have Z1 := Lib.hid hZ
                    clear hZ Z0
                    by_cases hlt : k < l.length
                    · have hck := Z1.out.o.cellAt hlt
                      obtain ⟨i0, i1⟩ := HIX.out k hlt
                      have hnew := HNW.out k hlt
                      rw [HN.out] at i1
                      obtain ⟨x, hx⟩ : ∃ x : Nat, l.getD k 0 = (x : Int) := ⟨(l.getD k 0).toNat, by omega⟩
                      rw [hx] at hck i0 i1 hnew
                      have hxN : x < N := by omega
                      have hs := Z1.out.z.cell hxN
                      simp only [if_neg hnew] at hs
                      have hfz := Z1.out.z.frozen x
                      have HX := Lib.hid hx
                      have hk1 : (k : Int) < (l.length : Int) := by omega
                      have hk3 : (k : Int) < (N : Int) := by have := HLN.out; omega
                      clear hnew
                      go_wp2_with fail
                      go_roundw
                      case rel => exact ⟨k + 1, hlt, by go_num, Z1.out.step HZB.out hwz hlt HX.out⟩
                      case measure => simp [intOf]; omega
                    · obtain rfl : k = l.length := by omega
                      have hbe : ((l.length : Int) == (N : Int)) = true := by have := HLN.out; simp; omega
                      go_wp2
                      go_ret
                      exact ⟨rfl, Z1.out.b⟩
end Go.Proofs.Ytffcclgcgiilmaa
