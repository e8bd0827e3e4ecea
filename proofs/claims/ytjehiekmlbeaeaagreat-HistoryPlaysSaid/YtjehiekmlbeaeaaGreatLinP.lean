/-
  Stage 11: the search of the program: completes. (Written by wip/gen_compl.py.)
-/
import Derived.Test.YtjehiekmlbeaeaaGreatMgBD
import Derived.Test.YtjehiekmlbeaeaaGreatSeq
namespace Go.Proofs.YtjehiekmlbeaeaaGreat
open Go Go.RowKit Go.Maps Go.MapKept
set_option linter.unusedSimpArgs false
set_option linter.unusedVariables false

theorem InG.fr {w w' : World} {k : Nat} {a : Option Addr} {R : List (List Value)} {S : List Nat} (h : InG w k a R) (hf : Fr S w w') (hne : ∀ x, a = some x → x.block ∉ S) : InG w' k a R :=
  ⟨h.1, h.2.1, fun i hi => by
    obtain ⟨x, e, hx, hc⟩ := h.2.2 i hi
    refine ⟨x, e, Nat.lt_of_lt_of_le hx hf.size, fun j hj => ?_⟩
    rw [← hc j hj]
    exact World.cell?_of_block (by rw [block_add]; exact hf.block x.block hx (hne x e))⟩
/-- What the search knows: its block, its operations, its map. -/
structure SrS (w : World) (sb : Nat) (oa : Option Addr) (N oc : Nat) (cap : Int) (mb n : Nat) (V : List Bool → List Int → Prop) (ops : List OpR) : Prop where
  s : Blk w sb 158 (srC oa N oc cap mb)
  o : InOp w oa ops
  m : MSt w mb n V
  a : ∀ x, oa = some x → x.block ∉ [mb]
section
variable {w w' : World} {sb : Nat} {oa : Option Addr} {N oc : Nat} {cap : Int} {mb n n' : Nat} {V V' : List Bool → List Int → Prop} {ops : List OpR}
theorem SrS.fr (h : SrS w sb oa N oc cap mb n V ops) (hf : Fr [mb] w w') (hm : MSt w' mb n' V') : SrS w' sb oa N oc cap mb n' V' ops :=
  ⟨h.s.of_same (hf.block sb h.s.lt (by simpa using h.m.ty h.s)), h.o.fr hf h.a, hm, h.a⟩
theorem SrS.below (h : SrS w sb oa N oc cap mb n V ops) (hb : Below w.heap.size w w') : SrS w' sb oa N oc cap mb n V ops := h.fr (Fr.old hb) (h.m.below hb)
end
theorem fr_grow {w w' : World} {b : Nat} (h : w.grownBy w' (some b)) : Fr [b] w w' := ⟨h.os, h.tape, h.output, h.size, fun k hk hn => h.block k hk (fun e => hn (by simpa using e))⟩
/-- No state of V with so much left leads to an order. -/
def Dead (cap : Int) (ops : List OpR) (k : Nat) (V : List Bool → List Int → Prop) : Prop := ∀ d l, V d l → (undI ops d).length ≤ k → ¬ LinFrom cap (und ops d) l
/-- What completes gives. -/
def CompD (cap : Int) (ops : List OpR) (mb n k : Nat) (V : List Bool → List Int → Prop) (d : List Bool) (l : List Int) (w : World) (e : Ending) (w' : World) : Prop :=
  ∃ (b : Bool) (n' : Nat) (V' : List Bool → List Int → Prop), e = .returned (.bool b) ∧ MSt w' mb n' V' ∧ n' ≤ n + memoT k ∧ Fr [mb] w w' ∧ (b = true → LinFrom cap (und ops d) l) ∧ (b = false → ¬ LinFrom cap (und ops d) l ∧ ∀ d' l', V' d' l' → V d' l' ∨ ((undI ops d').length ≤ k ∧ ¬ LinFrom cap (und ops d') l'))
theorem appO_in {cap : Int} {o : OpR} {l l' : List Int} (h : appO cap o l = some l') (hz : InZ l) (ho : (Lit.int .i64 o.v).wf = true) : InZ l' := by
  unfold appO at h
  split at h
  · split at h
    · injection h with h; subst h
      intro x hx
      rcases List.mem_append.1 hx with hx | hx
      · exact hz x hx
      · rw [List.mem_singleton.1 hx]; exact ho
    · cases h
  split at h
  · split at h
    · injection h with h; subst h; exact hz
    · cases h
  split at h
  · split at h
    · injection h with h; subst h; exact hz
    · cases h
  split at h
  · injection h with h; subst h; exact hz
  split at h
  · cases h
  split at h
  · split at h
    · injection h with h; subst h; exact fun x hx => hz x ((List.dropLast_sublist l).subset hx)
    · cases h
  · split at h
    · injection h with h; subst h; exact fun x hx => hz x (List.mem_of_mem_tail hx)
    · cases h
/-- What holds where the state's block is read. -/
structure StS (sb : Nat) (oa : Option Addr) (N oc : Nat) (cap : Int) (mb n : Nat) (V : List Bool → List Int → Prop) (g : Nat) (d : List Bool) (l : List Int) (u : World) : Prop where
  s : Blk u sb 158 (srC oa N oc cap mb)
  t : Blk u g 165 (stA d l)
  m : MSt u mb n V
structure StB (sb : Nat) (oa : Option Addr) (N oc : Nat) (cap : Int) (mb : Nat) (g : Nat) (d : List Bool) (l : List Int) (u : World) : Prop where
  s : Blk u sb 158 (srC oa N oc cap mb)
  t : Blk u g 165 (stA d l)
/-- .. where the operation is tried. -/
structure TrS (w1 : World) (sb : Nat) (oa : Option Addr) (N oc : Nat) (cap : Int) (mb : Nat) (g ob : Nat) (d : List Bool) (l : List Int) (x : OpR) (u : World) : Prop where
  s : Blk u sb 158 (srC oa N oc cap mb)
  t : Blk u g 165 (stA d l)
  x : Blk u ob 80 (opC x)
  b : Below w1.heap.size w1 u
theorem TrS.below {w1 u u' : World} {sb : Nat} {oa : Option Addr} {N oc : Nat} {cap : Int} {mb g ob : Nat} {d : List Bool} {l : List Int} {x : OpR} (h : TrS w1 sb oa N oc cap mb g ob d l x u) (hb : Below u.heap.size u u') : TrS w1 sb oa N oc cap mb g ob d l x u' :=
  ⟨h.s.below hb, h.t.below hb, h.x.below hb, h.b.trans (hb.mono h.b.size)⟩
theorem TrS.far {w1 u : World} {sb : Nat} {oa : Option Addr} {N oc : Nat} {cap : Int} {mb g ob : Nat} {d : List Bool} {l : List Int} {x : OpR} (h : TrS w1 sb oa N oc cap mb g ob d l x u) {b : Nat} {cs cs' : Array Value} (hl : Blk u b 163 cs) (hb : w1.heap.size ≤ b) : TrS w1 sb oa N oc cap mb g ob d l x (u.setRow b cs') :=
  ⟨h.s.of_same (setRow_other u b sb cs' (h.s.apart hl (by decide))), h.t.of_same (setRow_other u b g cs' (h.t.apart hl (by decide))), h.x.of_same (setRow_other u b ob cs' (h.x.apart hl (by decide))), below_rowg h.b hb cs'⟩
theorem range_list {u : World} {g : Nat} {d : List Bool} {l : List Int} (h : Blk u g 165 (stA d l)) (hd : d.length = 12) : u.rangeAt g 12 ((lsL l).map (Value.int .i64)) := by
  intro j v hv
  rw [h.at_, stA_list hd]
  unfold lsA
  rw [List.getElem?_toArray]
  exact hv
theorem range_done {u : World} {g : Nat} {d : List Bool} {l : List Int} (h : Blk u g 165 (stA d l)) (hd : d.length = 12) : u.rangeAt g 0 (d.map Value.bool) := by
  intro j v hv
  have hj : j < (d.map Value.bool).length := (List.getElem?_eq_some_iff.1 hv).1
  rw [List.length_map, hd] at hj
  rw [h.at_, Nat.zero_add, stA_done hd hj, ← hv, List.getElem?_map, List.getD_eq_getElem?_getD, List.getElem?_eq_getElem (by omega)]
  rfl
theorem info_listL (n : Nat) (h : n = 13) : (Tryz.prog.info? 163).map (fun i => i.size) = some n := info_list n h
theorem info_arrB (n : Nat) (h : n = 12) : (Tryz.prog.info? 160).map (fun i => i.size) = some n := by
  subst h
  kernel_rfl
/-- What a try leaves. -/
def TryR (w1 : World) (cap : Int) (x : OpR) (l : List Int) (v10 v11 : Value) (wx : World) : Prop :=
  ∃ (lb : Nat) (l' : List Int) (b : Bool), v10 = .pointer (some ⟨lb, 0, none⟩) ∧ v11 = .bool b ∧ Blk wx lb 163 (lsA l') ∧ w1.heap.size ≤ lb ∧ l'.length ≤ 12 ∧ (b = true → appO cap x l = some l') ∧ (b = false → appO cap x l = none) ∧ Below w1.heap.size w1 wx
/-- What the loop of completes keeps. -/
def CoR (w : World) (cap : Int) (ops : List OpR) (mb n k g : Nat) (V : List Bool → List Int → Prop) (d : List Bool) (l : List Int) (i : Value) (wr : World) : Prop :=
  ∃ (j n1 : Nat) (V1 : List Bool → List Int → Prop), j ≤ ops.length ∧ i = .int .i64 j ∧ MSt wr mb n1 V1 ∧ n1 ≤ n + 1 + j * memoT k ∧ (∀ d' l', V1 d' l' → (d' = d ∧ l' = l) ∨ V d' l' ∨ ((undI ops d').length ≤ k ∧ ¬ LinFrom cap (und ops d') l')) ∧ (∀ i, i < j → ¬ Cand cap ops d l i) ∧ Blk wr g 165 (stA d l) ∧ Fr [mb] w wr

theorem CoR.step {w u : World} {cap : Int} {ops : List OpR} {mb n n2 k g j : Nat} {d : List Bool} {l : List Int} {V V2 : List Bool → List Int → Prop} (hj : j < ops.length) (hm : MSt u mb n2 V2) (hn : n2 ≤ n + 1 + (j + 1) * memoT k)
    (hV : ∀ d' l', V2 d' l' → (d' = d ∧ l' = l) ∨ V d' l' ∨ ((undI ops d').length ≤ k ∧ ¬ LinFrom cap (und ops d') l')) (hno : ∀ i, i < j → ¬ Cand cap ops d l i) (hnc : ¬ Cand cap ops d l j) (hst : Blk u g 165 (stA d l)) (hfr : Fr [mb] w u) :
    CoR w cap ops mb n k g V d l (.int .i64 ((j : Int) + 1)) u :=
  ⟨j + 1, n2, V2, hj, by rw [show ((j + 1 : Nat) : Int) = (j : Int) + 1 by omega], hm, hn, hV, fun i hi => by
    by_cases e : i = j
    · rw [e]; exact hnc
    · exact hno i (by omega), hst, hfr⟩
abbrev stZ : Array Value := #[.bool false, .bool false, .bool false, .bool false, .bool false, .bool false, .bool false, .bool false, .bool false, .bool false, .bool false, .bool false, .int .i64 0, .int .i64 0, .int .i64 0, .int .i64 0, .int .i64 0, .int .i64 0, .int .i64 0, .int .i64 0, .int .i64 0, .int .i64 0, .int .i64 0, .int .i64 0, .int .i64 0]

set_option maxRecDepth 100000 in
set_option maxHeartbeats 16000000 in
theorem completes_any {sb : Nat} {oa : Option Addr} {N oc mb : Nat} {cap : Int} {ops : List OpR} (hN : ops.length = N) (h12 : N ≤ 12) (hw : ∀ o, o ∈ ops → WfO o) (hzo : ∀ o, o ∈ ops → (Lit.int .i64 o.v).wf = true ∧ o.a ≤ 9223372036854775807) :
    ∀ (k : Nat) (d : List Bool) (l : List Int) (w : World) (n : Nat) (V : List Bool → List Int → Prop), SrS w sb oa N oc cap mb n V ops → d.length = 12 → l.length + k ≤ 12 → InZ l → (undI ops d).length = k → n + memoT k ≤ 1000000000000000 → Dead cap ops k V →
    Calls Tryz.prog 71 #[.pointer (some ⟨sb, 0, none⟩), .agg (stA d l), .int .i64 k] w (CompD cap ops mb n k V d l w) := by
  intro k
  induction k with
  | zero =>
    intro d l w n V hsr hd hl hz hk hn hV
    rw [show ((0 : Nat) : Int) = 0 from rfl]
    have HS := Lib.hid hsr
    have HB := Lib.hid (below_one w (.cells (stA d l) 165))
    have hSz := stA_size hd (show l.length ≤ 12 by omega)
    have HR := Lib.hid (show LinFrom cap (und ops d) l by rw [und_nil hk]; exact LinFrom.nil cap l)
    clear hsr hd hl hz hk hn hV
    go_enter Tryz.func71, Tryz.ntmps71
    go_wp2
    go_ret
    exact ⟨true, n, V, rfl, HS.out.m.below HB.out, by show n ≤ n + 0; omega, Fr.old HB.out, fun _ => HR.out, fun e => by cases e⟩
  | succ k ih =>
    intro d l w n V hsr hd hl hz hk hn hV
    have IH := Lib.hid ih
    clear ih
    have hl12 : l.length ≤ 12 := by omega
    obtain ⟨K, hK⟩ : ∃ K : Int, ((k + 1 : Nat) : Int) = K := ⟨_, rfl⟩
    have hK0 : (K == 0) = false := by simp; omega
    have hKb : (1 : Int) ≤ K ∧ K ≤ 13 := by omega
    have HK := Lib.hid (show K - 1 = (k : Int) ∧ k ≤ 12 by omega)
    rw [hK]
    have HS := Lib.hid hsr
    have HH := Lib.hid (And.intro hd (And.intro hl12 (And.intro hz (And.intro hk (And.intro hn hl)))))
    have HV := Lib.hid hV
    have HO := Lib.hid (And.intro hN (And.intro hw hzo))
    have HB := Lib.hid (below_one w (.cells (stA d l) 165))
    have HE := Lib.hid (Blk.made w 165 (stA d l))
    have hSz := stA_size hd hl12
    clear hsr hd hz hk hn hV hl12 hl hN hw hzo hK
    go_enter Tryz.func71, Tryz.ntmps71
    go_upto_region 3 with fail
    generalize w.alloc (.cells (stA d l) 165) = W at *
    obtain ⟨g, hg⟩ : ∃ g, w.heap.size = g := ⟨_, rfl⟩
    have HG := Lib.hid (show w.heap.size ≤ g by omega)
    rw [hg] at HE ⊢
    clear hg hK0
    have HD := Lib.hid (show StS sb oa N oc cap mb n V g d l W.drew from ⟨(HS.out.below HB.out).s, HE.out, (HS.out.below HB.out).m⟩)
    have HB1 := Lib.hid (below_drew HB.out)
    obtain ⟨c, hc, hrun0⟩ := HD.out.m.look HH.out.1 HH.out.2.1 HH.out.2.2.1
    have HC := Lib.hid hc
    clear hc hrun0 HB HE
    refine wp_region_held_drew (S := StS sb oa N oc cap mb n V g d l) (by kernel_rfl) HD.out (fun _ => ?_)
    change wpAnyH _ _ _ _ _ 6 #[false, false, false, false, false, false] _ (World.drew _)
    generalize W.drew = V1 at *
    refine wpAnyH_take (i := 0) (v := .pointer (some ⟨sb, 0, none⟩)) rfl (by kernel_rfl) (by kernel_rfl) (by kernel_rfl) (fun _ _ _ h => h) (Or.inl ⟨by rfl, fun u hu => by (go_simp)⟩) HD.out ?_
    simp only [List.getElem_toArray, List.getElem_cons_succ, List.getElem_cons_zero, Act.put, List.setIfInBounds_toArray, List.set_cons_zero, List.set_cons_succ]
    refine wpAnyH_take (i := 1) (v := .pointer (some ⟨sb, 0, none⟩)) rfl (by kernel_rfl) (by kernel_rfl) (by kernel_rfl) (fun _ _ _ h => h) (Or.inl ⟨by rfl, fun u hu => by (go_simp)⟩) HD.out ?_
    simp only [List.getElem_toArray, List.getElem_cons_succ, List.getElem_cons_zero, Act.put, List.setIfInBounds_toArray, List.set_cons_zero, List.set_cons_succ]
    refine wpAnyH_take (i := 2) (v := .pointer (some ⟨sb, 2, none⟩)) rfl (by kernel_rfl) (by kernel_rfl) (by kernel_rfl) (fun _ _ _ h => h) (Or.inl ⟨by rfl, fun u hu => by (go_simp)⟩) HD.out ?_
    simp only [List.getElem_toArray, List.getElem_cons_succ, List.getElem_cons_zero, Act.put, List.setIfInBounds_toArray, List.set_cons_zero, List.set_cons_succ]
    refine wpAnyH_take (i := 3) (v := .map (some mb)) rfl (by kernel_rfl) (by kernel_rfl) (by kernel_rfl) (fun _ _ _ h => h) (Or.inl ⟨by rfl, fun u hu => by (have z : u.cell? ⟨sb, 2, none⟩ = some (.map (some mb)) := hu.s.at_ 2; go_simp)⟩) HD.out ?_
    simp only [List.getElem_toArray, List.getElem_cons_succ, List.getElem_cons_zero, Act.put, List.setIfInBounds_toArray, List.set_cons_zero, List.set_cons_succ]
    refine wpAnyH_take (i := 4) (v := .agg (stA d l)) rfl (by kernel_rfl) (by kernel_rfl) (by kernel_rfl) (fun _ _ _ h => h) (yields_row (by kernel_rfl) _ _ rfl g (by kernel_rfl) 165 (stA d l) (fun u hu => hu.t) _ Tryz.underlying165 rfl (info_state _ (stA_size HH.out.1 HH.out.2.1))) HD.out ?_
    simp only [List.getElem_toArray, List.getElem_cons_succ, List.getElem_cons_zero, Act.put, List.setIfInBounds_toArray, List.set_cons_zero, List.set_cons_succ]
    refine wpAnyH_take (i := 5) (v := .bool c) rfl (by kernel_rfl) (by kernel_rfl) (by kernel_rfl) (fun _ _ _ h => h) (Or.inl ⟨by rfl, fun u hu => by (obtain ⟨c2, hc2, hr2⟩ := hu.m.look HH.out.1 HH.out.2.1 HH.out.2.2.1; have ec : c2 = c := Bool.eq_iff_iff.2 (hc2.trans HC.out.symm); subst ec; go_simp)⟩) HD.out ?_
    simp only [List.getElem_toArray, List.getElem_cons_succ, List.getElem_cons_zero, Act.put, List.setIfInBounds_toArray, List.set_cons_zero, List.set_cons_succ]
    refine wpAnyH_done (by kernel_rfl) ?_ _
    cases c with
    | true =>
      go_wp2_with fail
      go_ret
      exact ⟨false, n, V, rfl, HD.out.m, by omega, Fr.old HB1.out, fun e => (by cases e), fun _ => ⟨HV.out d l (HC.out.1 (by trivial)) (by rw [HH.out.2.2.2.1]; exact Nat.le_refl _), fun d' l' h => .inl h⟩⟩
    | false =>
    go_upto_region 5 with fail
    have HD2 := Lib.hid (show StS sb oa N oc cap mb n V g d l V1.drew from ⟨HD.out.s, HD.out.t, HD.out.m⟩)
    have HB2 := Lib.hid (below_drew HB1.out)
    clear HD HB1
    obtain ⟨W2, hrun, hm2, hg2⟩ := HD2.out.m.put (by unfold maxLen; have := HH.out.2.2.2.2.1; omega) HH.out.1 HH.out.2.1 HH.out.2.2.1
    have HRUN := Lib.hid hrun
    clear hrun
    have HD3 := Lib.hid (show StB sb oa N oc cap mb g d l V1.drew from ⟨HD2.out.s, HD2.out.t⟩)
    refine wp_region_held_drew (S := StB sb oa N oc cap mb g d l) (by kernel_rfl) HD3.out (fun _ => ?_)
    change wpAnyH _ _ _ _ _ 6 #[false, false, false, false, false, false] _ (World.drew _)
    generalize V1.drew = V2 at *
    refine wpAnyH_take (i := 0) (v := .pointer (some ⟨sb, 0, none⟩)) rfl (by kernel_rfl) (by kernel_rfl) (by kernel_rfl) (fun _ _ _ h => h) (Or.inl ⟨by rfl, fun u hu => by (go_simp)⟩) HD3.out ?_
    simp only [List.getElem_toArray, List.getElem_cons_succ, List.getElem_cons_zero, Act.put, List.setIfInBounds_toArray, List.set_cons_zero, List.set_cons_succ]
    refine wpAnyH_take (i := 1) (v := .pointer (some ⟨sb, 0, none⟩)) rfl (by kernel_rfl) (by kernel_rfl) (by kernel_rfl) (fun _ _ _ h => h) (Or.inl ⟨by rfl, fun u hu => by (go_simp)⟩) HD3.out ?_
    simp only [List.getElem_toArray, List.getElem_cons_succ, List.getElem_cons_zero, Act.put, List.setIfInBounds_toArray, List.set_cons_zero, List.set_cons_succ]
    refine wpAnyH_take (i := 2) (v := .pointer (some ⟨sb, 2, none⟩)) rfl (by kernel_rfl) (by kernel_rfl) (by kernel_rfl) (fun _ _ _ h => h) (Or.inl ⟨by rfl, fun u hu => by (go_simp)⟩) HD3.out ?_
    simp only [List.getElem_toArray, List.getElem_cons_succ, List.getElem_cons_zero, Act.put, List.setIfInBounds_toArray, List.set_cons_zero, List.set_cons_succ]
    refine wpAnyH_take (i := 3) (v := .map (some mb)) rfl (by kernel_rfl) (by kernel_rfl) (by kernel_rfl) (fun _ _ _ h => h) (Or.inl ⟨by rfl, fun u hu => by (have z : u.cell? ⟨sb, 2, none⟩ = some (.map (some mb)) := hu.s.at_ 2; go_simp)⟩) HD3.out ?_
    simp only [List.getElem_toArray, List.getElem_cons_succ, List.getElem_cons_zero, Act.put, List.setIfInBounds_toArray, List.set_cons_zero, List.set_cons_succ]
    refine wpAnyH_take (i := 4) (v := .agg (stA d l)) rfl (by kernel_rfl) (by kernel_rfl) (by kernel_rfl) (fun _ _ _ h => h) (yields_row (by kernel_rfl) _ _ rfl g (by kernel_rfl) 165 (stA d l) (fun u hu => hu.t) _ Tryz.underlying165 rfl (info_state _ (stA_size HH.out.1 HH.out.2.1))) HD3.out ?_
    simp only [List.getElem_toArray, List.getElem_cons_succ, List.getElem_cons_zero, Act.put, List.setIfInBounds_toArray, List.set_cons_zero, List.set_cons_succ]
    have hF2 := fr_grow hg2
    have HM3 := Lib.hid hm2
    have HS3 := Lib.hid ((HS.out.fr (Fr.old HB2.out) HD2.out.m).fr hF2 hm2)
    have HT3 := Lib.hid (HD2.out.t.of_same (hF2.block g HD2.out.t.lt (by simpa using HD2.out.m.ty HD2.out.t)))
    have HF3 := Lib.hid ((Fr.old HB2.out : Fr [mb] w V2).trans hF2)
    refine wpAnyH_ready (rs := [5]) (by kernel_rfl) (by simp) ?_
    refine AllReadyH.cons rfl (fun K hK => ?_) AllReadyH.nil
    have hrun := HRUN.out
    go_simp
    refine hK.out _ _ ⟨HS3.out.s, HT3.out⟩ (fun _ => ?_)
    clear hK K hrun HRUN hF2 hg2 hm2 HD3 HD2 HB2
    simp only [List.setIfInBounds_toArray, List.set_cons_zero, List.set_cons_succ]
    refine wpAnyH_done (by kernel_rfl) ?_ _
    go_wp2_with (refine wpList_load_row rfl 165 (.tmp 4) rfl g rfl 165 _ (0, 0) _ HT3.out Tryz.underlying165 rfl (info_state _ (stA_size HH.out.1 HH.out.2.1)) ?_)
    (with_reducible refine (firstEnd_any HS3.out.s HS3.out.o HO.out.1 h12 HH.out.1 HH.out.2.1).mono ?_)
    rintro e W4 ⟨E, rfl, hfe, hb4⟩
    have HFE := Lib.hid hfe
    have HS4 := Lib.hid (HS3.out.below hb4)
    have HT4 := Lib.hid (HT3.out.below hb4)
    have HF4 := Lib.hid (HF3.out.trans (Fr.old hb4))
    clear hfe hb4 HS3 HT3 HF3 HM3
    have c0 := HS4.out.s.at_ 0
    go_upto_region 8 with fail
    clear c0
    go_wp2_with fail
    go_loopw [34] (fun i wr => CoR w cap ops mb n k g V d l i wr) (fun i _ => N - (intOf i).toNat)
    case atStart => exact ⟨0, n + 1, _, by omega, rfl, HS4.out.m, by omega, fun d' l' h => h.elim (fun h => .inr (.inl h)) .inl, fun i hi => by omega, HT4.out, HF4.out⟩
    case round =>
      obtain ⟨j, n1, V3, hj, rfl, hm, hn1, hV3, hno, hst, hfr⟩ := hrel
      rw [HO.out.1] at hj
      have F := Lib.hid (And.intro hn1 (And.intro hV3 (And.intro hno hfr)))
      have HSr := Lib.hid (HS.out.fr hfr hm)
      have HTr := Lib.hid hst
      clear hn1 hV3 hno hfr hm hst HS4 HT4 HF4
      by_cases hlt : j < N
      case neg =>
        as_aux_lemma =>
        have hjN : j = N := by omega
        have hdead : ¬ LinFrom cap (und ops d) l := fun hlin => by
          obtain ⟨i, hi⟩ := cand_of_lin (by rw [HO.out.1, HH.out.1]; exact h12) (fun o ho => (HO.out.2.1 o ho).2.2.2) (fun e => by
            have := und_len ops d
            rw [e, HH.out.2.2.2.1] at this
            simp at this) hlin
          have := (undI_mem.1 hi.1).1
          exact F.out.2.2.1 i (by rw [hjN]; rw [HO.out.1] at this; exact this) hi
        have hlt2 : decide ((j : Int) < (N : Int)) = false := decide_eq_false (by omega)
        have R := Lib.hid hdead
        clear hdead
        go_wp2
        go_ret
        refine ⟨false, n1, V3, rfl, HSr.out.m, ?_, F.out.2.2.2, fun e => (by cases e), fun _ => ⟨R.out, fun d' l' h => ?_⟩⟩
        · have h1 := F.out.1
          have h2 : j * memoT k ≤ 12 * memoT k := Nat.mul_le_mul_right _ (by omega)
          show n1 ≤ n + (1 + 12 * memoT k)
          omega
        · rcases F.out.2.1 d' l' h with ⟨rfl, rfl⟩ | h3 | ⟨h3, h4⟩
          · exact .inr ⟨by rw [HH.out.2.2.2.1]; exact Nat.le_refl _, R.out⟩
          · exact .inl h3
          · exact .inr ⟨by omega, h4⟩
      have hlt2 : (j : Int) < (N : Int) := by omega
      have hj0 : (0 : Int) ≤ (j : Int) := by omega
      have hj12 : (j : Int) < 12 := by omega
      obtain ⟨x, rfl, hxb, e0, e1, e2, e3, e4, e5⟩ := InOp.op HSr.out.o (i := j) (by rw [HO.out.1]; exact hlt)
      obtain ⟨o, hoj⟩ : ∃ o, ops.getD j .zero = o := ⟨_, rfl⟩
      rw [hoj] at e0 e1 e2 e3 e4 e5
      have HW1 := Lib.hid (show WfO o ∧ (Lit.int .i64 o.v).wf = true ∧ o.a ≤ 9223372036854775807 from by
        have hm : ops.getD j .zero ∈ ops := by
          rw [List.getD_eq_getElem?_getD, List.getElem?_eq_getElem (by rw [HO.out.1]; exact hlt)]
          exact List.getElem_mem _
        rw [hoj] at hm
        exact ⟨HO.out.2.1 o hm, HO.out.2.2 o hm⟩)
      have HJ := Lib.hid hoj
      obtain ⟨ok, om, oa', ob', oc', ov⟩ := o
      clear hoj
      go_upto_region 10 with fail
      clear e0 e1 e2 e3 e4 e5
      have HX := Lib.hid (Blk.made wr 80 (opC ⟨ok, om, oa', ob', oc', ov⟩))
      have HS5 := Lib.hid (HSr.out.below (below_one wr (.cells (opC ⟨ok, om, oa', ob', oc', ov⟩) 80)))
      have HT5 := Lib.hid (HTr.out.below (below_one wr (.cells (opC ⟨ok, om, oa', ob', oc', ov⟩) 80)))
      have HF5 := Lib.hid (F.out.2.2.2.alloc (.cells (opC ⟨ok, om, oa', ob', oc', ov⟩) 80))
      have HSZ := Lib.hid (show w.heap.size ≤ wr.heap.size from F.out.2.2.2.size)
      clear HSr HTr hxb
      generalize wr.alloc (.cells (opC ⟨ok, om, oa', ob', oc', ov⟩) 80) = V5 at *
      generalize wr.heap.size = ob at *
      have x2 : V5.cell? ⟨ob, 2, none⟩ = some (.int .i64 oa') := HX.out.at_ 2
      have y0 := HT5.out.at_ j
      rw [stA_done HH.out.1 (by omega)] at y0
      obtain ⟨dj, hdj⟩ : ∃ dj, d.getD j false = dj := ⟨_, rfl⟩
      rw [hdj] at y0
      have HDJ := Lib.hid hdj
      clear hdj
      have HJN := Lib.hid (show j < ops.length ∧ n1 ≤ n + 1 + (j + 1) * memoT k from ⟨by rw [HO.out.1]; exact hlt, by have := F.out.1; rw [Nat.add_mul]; omega⟩)
      cases dj with
      | true =>
        as_aux_lemma =>
        have hnc := Lib.hid (show ¬ Cand cap ops d l j from fun h => by
          have := (undI_mem.1 h.1).2
          rw [HDJ.out] at this
          cases this)
        go_wp2_with fail
        go_round
        case rel => exact CoR.step HJN.out.1 HS5.out.m HJN.out.2 F.out.2.1 F.out.2.2.1 hnc.out HT5.out HF5.out
        case measure => simp [intOf]; omega
      | false =>
      by_cases hgt : E < oa'
      · as_aux_lemma =>
        have hnc := Lib.hid (show ¬ Cand cap ops d l j from fun h => by
          have hin : oa' ≤ 9223372036854775807 := HW1.out.2.2
          have := (HFE.out oa' hin).2 (fun i hi => by have := h.2.1 i hi; rw [HJ.out] at this; exact this)
          omega)
        have hg1 : decide (E < oa') = true := decide_eq_true hgt
        go_wp2_with fail
        go_round
        case rel => exact CoR.step HJN.out.1 HS5.out.m HJN.out.2 F.out.2.1 F.out.2.2.1 hnc.out HT5.out HF5.out
        case measure => simp [intOf]; omega
      have hg1 : decide (E < oa') = false := decide_eq_false hgt
      have HGT := Lib.hid hgt
      clear hgt
      go_upto_region 11 with fail
      clear x2 y0 hg1
      go_cut [10, 11] from 49 to 59 (fun v10 v11 wx => TryR V5 cap ⟨ok, om, oa', ob', oc', ov⟩ l v10 v11 wx)
      case first =>
        as_aux_lemma =>
        have HD3 := Lib.hid (show TrS V5 sb (some x) N oc cap mb g ob d l ⟨ok, om, oa', ob', oc', ov⟩ V5.drew from ⟨HS5.out.s, HT5.out, HX.out, below_drew (Below.refl _ _)⟩)
        have HAF := Lib.hid (fun W : World => after_any l ⟨ok, om, oa', ob', oc', ov⟩ cap W (by have := HH.out.2.2.2.2.2; omega) HW1.out.1.1)
        refine wp_region_held_drew (S := TrS V5 sb (some x) N oc cap mb g ob d l ⟨ok, om, oa', ob', oc', ov⟩) (by kernel_rfl) HD3.out (fun _ => ?_)
        change wpAnyH _ _ _ _ _ 14 #[false, false, false, false, false, false, false, false, false, false, false, false, false, false] _ (World.drew _)
        generalize V5.drew = V6 at *
        refine wpAnyH_take (i := 0) (v := .pointer (some ⟨g, 12, none⟩)) rfl (by kernel_rfl) (by kernel_rfl) (by kernel_rfl) (fun _ _ _ h => h) (Or.inl ⟨by rfl, fun u hu => by (go_simp)⟩) HD3.out ?_
        simp only [List.getElem_toArray, List.getElem_cons_succ, List.getElem_cons_zero, Act.put, List.setIfInBounds_toArray, List.set_cons_zero, List.set_cons_succ]
        refine wpAnyH_take (i := 1) (v := .agg (lsA l)) rfl (by kernel_rfl) (by kernel_rfl) (by kernel_rfl) (fun _ _ _ h => h) (yieldsIf_load_mid (by kernel_rfl) _ _ rfl g 12 (by kernel_rfl) ((lsL l).map (Value.int .i64)) _ (fun u hu => range_list hu.t HH.out.1) Tryz.underlying163 rfl (info_list _ (by rw [List.length_map]; exact lsL_len HH.out.2.1))) HD3.out ?_
        simp only [List.getElem_toArray, List.getElem_cons_succ, List.getElem_cons_zero, Act.put, List.setIfInBounds_toArray, List.set_cons_zero, List.set_cons_succ]
        refine wpAnyH_take (i := 2) (v := .agg (opC ⟨ok, om, oa', ob', oc', ov⟩)) rfl (by kernel_rfl) (by kernel_rfl) (by kernel_rfl) (fun _ _ _ h => h) (yields_row (by kernel_rfl) _ _ rfl ob (by kernel_rfl) 80 (opC ⟨ok, om, oa', ob', oc', ov⟩) (fun u hu => hu.x) _ Tryz.underlying80 rfl (by kernel_rfl)) HD3.out ?_
        simp only [List.getElem_toArray, List.getElem_cons_succ, List.getElem_cons_zero, Act.put, List.setIfInBounds_toArray, List.set_cons_zero, List.set_cons_succ]
        refine wpAnyH_take (i := 3) (v := .pointer (some ⟨sb, 0, none⟩)) rfl (by kernel_rfl) (by kernel_rfl) (by kernel_rfl) (fun _ _ _ h => h) (Or.inl ⟨by rfl, fun u hu => by (go_simp)⟩) HD3.out ?_
        simp only [List.getElem_toArray, List.getElem_cons_succ, List.getElem_cons_zero, Act.put, List.setIfInBounds_toArray, List.set_cons_zero, List.set_cons_succ]
        refine wpAnyH_take (i := 4) (v := .pointer (some ⟨sb, 0, none⟩)) rfl (by kernel_rfl) (by kernel_rfl) (by kernel_rfl) (fun _ _ _ h => h) (Or.inl ⟨by rfl, fun u hu => by (go_simp)⟩) HD3.out ?_
        simp only [List.getElem_toArray, List.getElem_cons_succ, List.getElem_cons_zero, Act.put, List.setIfInBounds_toArray, List.set_cons_zero, List.set_cons_succ]
        refine wpAnyH_take (i := 5) (v := .pointer (some ⟨sb, 1, none⟩)) rfl (by kernel_rfl) (by kernel_rfl) (by kernel_rfl) (fun _ _ _ h => h) (Or.inl ⟨by rfl, fun u hu => by (go_simp)⟩) HD3.out ?_
        simp only [List.getElem_toArray, List.getElem_cons_succ, List.getElem_cons_zero, Act.put, List.setIfInBounds_toArray, List.set_cons_zero, List.set_cons_succ]
        refine wpAnyH_take (i := 6) (v := .int .i64 cap) rfl (by kernel_rfl) (by kernel_rfl) (by kernel_rfl) (fun _ _ _ h => h) (Or.inl ⟨by rfl, fun u hu => by (have z : u.cell? ⟨sb, 1, none⟩ = some (.int .i64 cap) := hu.s.at_ 1; go_simp)⟩) HD3.out ?_
        simp only [List.getElem_toArray, List.getElem_cons_succ, List.getElem_cons_zero, Act.put, List.setIfInBounds_toArray, List.set_cons_zero, List.set_cons_succ]
        refine wpAnyH_ready (rs := [7, 11]) (by kernel_rfl) (by simp) ?_
        refine AllReadyH.cons rfl (fun K hK => ?_) (AllReadyH.cons rfl (fun K hK => ?_) AllReadyH.nil)
        · go_simp
          go_at_call 103
          (with_reducible refine (HAF.out _).mono ?_)
          rintro e u1 ⟨l', b, rfl, hl', hby, hbn, hb1⟩
          have HL9 := Lib.hid (And.intro hl' (And.intro hby hbn))
          have HE := Lib.hid (HD3.out.below hb1)
          clear hb1 HD3 hl' hby hbn
          refine hK.out _ _ HE.out (fun _ => ?_)
          clear hK K
          simp only [List.setIfInBounds_toArray, List.set_cons_zero, List.set_cons_succ]
          refine wpAnyH_take (i := 8) (v := .tuple #[.agg (lsA l'), .bool b]) rfl (by kernel_rfl) (by kernel_rfl) (by kernel_rfl) (fun _ _ _ h => h) (Or.inl ⟨by rfl, fun u hu => by (go_simp)⟩) HE.out ?_
          simp only [List.getElem_toArray, List.getElem_cons_succ, List.getElem_cons_zero, Act.put, List.setIfInBounds_toArray, List.set_cons_zero, List.set_cons_succ]
          refine wpAnyH_take (i := 9) (v := .agg (lsA l')) rfl (by kernel_rfl) (by kernel_rfl) (by kernel_rfl) (fun _ _ _ h => h) (Or.inl ⟨by rfl, fun u hu => by (go_simp)⟩) HE.out ?_
          simp only [List.getElem_toArray, List.getElem_cons_succ, List.getElem_cons_zero, Act.put, List.setIfInBounds_toArray, List.set_cons_zero, List.set_cons_succ]
          refine wpAnyH_take (i := 10) (v := .bool b) rfl (by kernel_rfl) (by kernel_rfl) (by kernel_rfl) (fun _ _ _ h => h) (Or.inl ⟨by rfl, fun u hu => by (go_simp)⟩) HE.out ?_
          simp only [List.getElem_toArray, List.getElem_cons_succ, List.getElem_cons_zero, Act.put, List.setIfInBounds_toArray, List.set_cons_zero, List.set_cons_succ]
          refine wpAnyH_ready (rs := [11]) (by kernel_rfl) (by simp) ?_
          refine AllReadyH.cons rfl (fun K hK => ?_) AllReadyH.nil
          go_simp
          have HE2 := Lib.hid (HE.out.below (below_one u1 (.cells lsZ 163)))
          have HLB := Lib.hid (Blk.made u1 163 lsZ)
          have HLS := Lib.hid (show V5.heap.size ≤ u1.heap.size from HE.out.b.size)
          refine hK.out _ _ HE2.out (fun _ => ?_)
          clear hK K HE
          simp only [List.setIfInBounds_toArray, List.set_cons_zero, List.set_cons_succ]
          generalize u1.alloc (.cells lsZ 163) = u2 at *
          generalize u1.heap.size = lb at *
          have hW := HE2.out
          refine wpAnyH_ready (rs := [12]) (by kernel_rfl) (by simp) ?_
          refine AllReadyH.cons rfl (fun K hK => ?_) AllReadyH.nil
          refine wp_store_row 163 (.tmp 10) (.tmp 58) rfl lb (lsA l') rfl rfl 163 lsZ HLB.out (info_list _ (hidLs HL9.out.1)) (by rw [hidLs HL9.out.1]; rfl) lsA_one ?_
          refine hK.out _ _ (hW.far HLB.out HLS.out) (fun _ => ?_)
          clear hK K
          simp only [List.setIfInBounds_toArray, List.set_cons_zero, List.set_cons_succ]
          refine wpAnyH_ready (rs := [13]) (by kernel_rfl) (by simp) ?_
          refine AllReadyH.cons rfl (fun K hK => ?_) AllReadyH.nil
          go_simp
          refine hK.out _ _ (hW.far HLB.out HLS.out) (fun _ => ?_)
          clear hK K
          simp only [List.setIfInBounds_toArray, List.set_cons_zero, List.set_cons_succ]
          refine wpAnyH_done (by kernel_rfl) ?_ _
          go_wp2_with fail
          go_meet
          case rel => exact ⟨lb, l', b, rfl, rfl, Blk.setRow HLB.out _, HLS.out, HL9.out.1, HL9.out.2.1, HL9.out.2.2, below_rowg hW.b HLS.out _⟩
        · go_simp
          have HE0 := Lib.hid (HD3.out.below (below_one V6 (.cells lsZ 163)))
          have HLB0 := Lib.hid (Blk.made V6 163 lsZ)
          have HLS := Lib.hid (show V5.heap.size ≤ V6.heap.size from HD3.out.b.size)
          refine hK.out _ _ HE0.out (fun _ => ?_)
          clear hK K HD3
          simp only [List.setIfInBounds_toArray, List.set_cons_zero, List.set_cons_succ]
          generalize V6.alloc (.cells lsZ 163) = u0 at *
          generalize V6.heap.size = lb at *
          refine wpAnyH_ready (rs := [7]) (by kernel_rfl) (by simp) ?_
          refine AllReadyH.cons rfl (fun K hK => ?_) AllReadyH.nil
          go_simp
          go_at_call 103
          (with_reducible refine (HAF.out _).mono ?_)
          rintro e u1 ⟨l', b, rfl, hl', hby, hbn, hb1⟩
          have HL9 := Lib.hid (And.intro hl' (And.intro hby hbn))
          have HE := Lib.hid (HE0.out.below hb1)
          have HLB := Lib.hid (HLB0.out.below hb1)
          clear hb1 HE0 HLB0 hl' hby hbn
          refine hK.out _ _ HE.out (fun _ => ?_)
          clear hK K
          simp only [List.setIfInBounds_toArray, List.set_cons_zero, List.set_cons_succ]
          refine wpAnyH_take (i := 8) (v := .tuple #[.agg (lsA l'), .bool b]) rfl (by kernel_rfl) (by kernel_rfl) (by kernel_rfl) (fun _ _ _ h => h) (Or.inl ⟨by rfl, fun u hu => by (go_simp)⟩) HE.out ?_
          simp only [List.getElem_toArray, List.getElem_cons_succ, List.getElem_cons_zero, Act.put, List.setIfInBounds_toArray, List.set_cons_zero, List.set_cons_succ]
          refine wpAnyH_take (i := 9) (v := .agg (lsA l')) rfl (by kernel_rfl) (by kernel_rfl) (by kernel_rfl) (fun _ _ _ h => h) (Or.inl ⟨by rfl, fun u hu => by (go_simp)⟩) HE.out ?_
          simp only [List.getElem_toArray, List.getElem_cons_succ, List.getElem_cons_zero, Act.put, List.setIfInBounds_toArray, List.set_cons_zero, List.set_cons_succ]
          refine wpAnyH_take (i := 10) (v := .bool b) rfl (by kernel_rfl) (by kernel_rfl) (by kernel_rfl) (fun _ _ _ h => h) (Or.inl ⟨by rfl, fun u hu => by (go_simp)⟩) HE.out ?_
          simp only [List.getElem_toArray, List.getElem_cons_succ, List.getElem_cons_zero, Act.put, List.setIfInBounds_toArray, List.set_cons_zero, List.set_cons_succ]
          have hW := HE.out
          refine wpAnyH_ready (rs := [12]) (by kernel_rfl) (by simp) ?_
          refine AllReadyH.cons rfl (fun K hK => ?_) AllReadyH.nil
          refine wp_store_row 163 (.tmp 10) (.tmp 58) rfl lb (lsA l') rfl rfl 163 lsZ HLB.out (info_list _ (hidLs HL9.out.1)) (by rw [hidLs HL9.out.1]; rfl) lsA_one ?_
          refine hK.out _ _ (hW.far HLB.out HLS.out) (fun _ => ?_)
          clear hK K
          simp only [List.setIfInBounds_toArray, List.set_cons_zero, List.set_cons_succ]
          refine wpAnyH_ready (rs := [13]) (by kernel_rfl) (by simp) ?_
          refine AllReadyH.cons rfl (fun K hK => ?_) AllReadyH.nil
          go_simp
          refine hK.out _ _ (hW.far HLB.out HLS.out) (fun _ => ?_)
          clear hK K
          simp only [List.setIfInBounds_toArray, List.set_cons_zero, List.set_cons_succ]
          refine wpAnyH_done (by kernel_rfl) ?_ _
          go_wp2_with fail
          go_meet
          case rel => exact ⟨lb, l', b, rfl, rfl, Blk.setRow HLB.out _, HLS.out, HL9.out.1, HL9.out.2.1, HL9.out.2.2, below_rowg hW.b HLS.out _⟩
      case rest =>
      obtain ⟨lb, l', b, rfl, rfl, hlb, hls, hl', hby, hbn, hbw⟩ := hcut
      have HS6 := Lib.hid (HS5.out.below hbw)
      have HT6 := Lib.hid (HT5.out.below hbw)
      have HF6 := Lib.hid (HF5.out.trans (Fr.old hbw))
      have HLB := Lib.hid hlb
      have HL6 := Lib.hid (And.intro hl' (And.intro hby hbn))
      clear HS5 HT5 HF5 hbw hlb hls hl' hby hbn HX
      cases b with
      | false =>
        as_aux_lemma =>
        have hnc := Lib.hid (show ¬ Cand cap ops d l j from fun h => by
          obtain ⟨_, _, l2, h2, _⟩ := h
          rw [HJ.out, HL6.out.2.2 rfl] at h2
          cases h2)
        go_wp2_with fail
        go_round
        case rel => exact CoR.step HJN.out.1 HS6.out.m HJN.out.2 F.out.2.1 F.out.2.2.1 hnc.out HT6.out HF6.out
        case measure => simp [intOf]; omega
      | true =>
      have happ := Lib.hid (HL6.out.2.1 rfl)
      go_upto_region 13 with fail
      have HZ := Lib.hid (Blk.made wc 165 stZ)
      obtain ⟨tb, htb⟩ : ∃ tb, wc.heap.size = tb := ⟨_, rfl⟩
      rw [htb] at HZ
      have HTB := Lib.hid htb
      have HS13 := Lib.hid (stA_size HH.out.1 HL6.out.1)
      go_upto_region 14 with (first | (refine wpList_load_mid rfl 160 (.tmp 61) rfl g 0 rfl (d.map Value.bool) _ (range_done HT6.out HH.out.1) Tryz.underlying160 rfl (info_arrB _ (by rw [List.length_map]; exact HH.out.1)) ?_) | (refine wpList_load_row rfl 163 (.tmp 10) rfl lb rfl 163 _ (0, 0) _ HLB.out Tryz.underlying163 rfl (info_list _ (hidLs HL6.out.1)) ?_) | (refine wpList_buildTo (d := some 64) (cells := stA d l') rfl 165 #[(0, .tmp 62), (1, .tmp 63)] rfl rfl (by simp only [List.map_toArray, List.map_cons, List.map_nil]; exact built_state d l' HH.out.1 HL6.out.1) ?_) | (refine wpList_store_rowTo rfl 165 (.tmp 12) (.tmp 64) rfl rfl tb (stA d l') rfl rfl 165 stZ HZ.out (info_state _ HS13.out) (by rw [HS13.out]; rfl) (stA_one d l') ?_))
      have HB7 := Lib.hid (below_rowg (below_one wc (.cells stZ 165)) (show wc.heap.size ≤ tb by rw [HTB.out]; exact Nat.le_refl _) (stA d l'))
      have HT7 := Lib.hid (HZ.out.setRow (stA d l'))
      clear HZ
      generalize (wc.alloc (.cells stZ 165)).setRow tb (stA d l') = W7 at *
      have y0 := HT7.out.at_ j
      rw [stA_done HH.out.1 (by omega)] at y0
      have f0 := HT7.out.free j
      go_upto_region 15 with fail
      clear y0 f0
      have HT8 := Lib.hid (stA_set (l := l') HH.out.1 (show j < 12 by omega) ▸ HT7.out.put j (.bool true))
      have HB8 := Lib.hid (below_set HB7.out (i := j) (show wc.heap.size ≤ tb by rw [HTB.out]; exact Nat.le_refl _) (.bool true))
      have HS8 := Lib.hid (HS6.out.below HB8.out)
      have HG8 := Lib.hid (HT6.out.below HB8.out)
      have HF8 := Lib.hid (HF6.out.trans (Fr.old HB8.out))
      clear HT7 HB7 HB8 HS6 HT6 HF6 HLB
      generalize W7.setCell ⟨tb, j, none⟩ (.bool true) = W8 at *
      have HD12 := Lib.hid (show (d.set j true).length = 12 by rw [List.length_set]; exact HH.out.1)
      have HIN := Lib.hid (undI_mem.2 ⟨HJN.out.1, HDJ.out⟩)
      have HPRE := Lib.hid (And.intro (show l'.length + k ≤ 12 by have := appO_len happ.out; have := HH.out.2.2.2.2.2; omega) (And.intro (appO_in happ.out HH.out.2.2.1 HW1.out.2.1) (undI_less (by rw [HH.out.1]; omega) HIN.out HH.out.2.2.2.1)))
      have HNN := Lib.hid (show n1 + memoT k ≤ 1000000000000000 by
        have h1 := F.out.1
        have h2 : (j + 1) * memoT k ≤ 12 * memoT k := Nat.mul_le_mul_right _ (by omega)
        have h3 : n + (1 + 12 * memoT k) ≤ 1000000000000000 := HH.out.2.2.2.2.1
        rw [Nat.add_mul] at h2
        omega)
      have HDEAD := Lib.hid (show Dead cap ops k V3 from fun d' l' h hlen => by
        rcases F.out.2.1 d' l' h with ⟨rfl, rfl⟩ | h3 | ⟨h3, h4⟩
        · have := HH.out.2.2.2.1
          omega
        · exact HV.out d' l' h3 (by omega)
        · exact h4)
      go_wp2_with (refine wpList_load_row rfl 165 (.tmp 12) rfl tb rfl 165 _ (0, 0) _ HT8.out Tryz.underlying165 rfl (info_state _ (stA_size HD12.out HL6.out.1)) ?_)
      rw [HK.out.1]
      (with_reducible refine (IH.out (d.set j true) l' W8 n1 V3 HS8.out HD12.out HPRE.out.1 HPRE.out.2.1 HPRE.out.2.2 HNN.out HDEAD.out).mono ?_)
      rintro e W9 ⟨b2, n3, V4, rfl, hm9, hn9, hf9, hy9, hx9⟩
      have HM9 := Lib.hid hm9
      have HG9 := Lib.hid (HG8.out.of_same (hf9.block g HG8.out.lt (by simpa using HS8.out.m.ty HG8.out)))
      have HF9 := Lib.hid (HF8.out.trans hf9)
      have HN9 := Lib.hid (And.intro hn9 (And.intro hy9 hx9))
      clear hm9 hn9 hf9 hy9 hx9 HS8 HG8 HF8 HT8
      have HBD := Lib.hid (show n3 ≤ n + 1 + (j + 1) * memoT k by
        have h1 := F.out.1
        have h2 := HN9.out.1
        rw [Nat.add_mul]
        omega)
      cases b2 with
      | true =>
        as_aux_lemma =>
        have hlin := Lib.hid (lin_of_cand (show ops.length ≤ d.length by rw [HO.out.1, HH.out.1]; exact h12) (show Cand cap ops d l j from ⟨HIN.out, fun i hi => by
          rw [HJ.out]
          exact (HFE.out oa' HW1.out.2.2).1 (by have := HGT.out; omega) i hi, l', by rw [HJ.out]; exact happ.out, HN9.out.2.1 rfl⟩))
        go_wp2_with fail
        go_ret
        refine ⟨true, n3, V4, rfl, HM9.out, ?_, HF9.out, fun _ => hlin.out, fun e => by cases e⟩
        have h1 := HBD.out
        have h2 : (j + 1) * memoT k ≤ 12 * memoT k := Nat.mul_le_mul_right _ (by omega)
        show n3 ≤ n + (1 + 12 * memoT k)
        omega
      | false =>
        as_aux_lemma =>
        have hnc := Lib.hid (show ¬ Cand cap ops d l j from fun h => by
          obtain ⟨_, _, l2, h2, h3⟩ := h
          rw [HJ.out, happ.out] at h2
          have e := Option.some.inj h2
          subst e
          exact (HN9.out.2.2 rfl).1 h3)
        have hinv := Lib.hid (show ∀ d' l', V4 d' l' → (d' = d ∧ l' = l) ∨ V d' l' ∨ ((undI ops d').length ≤ k ∧ ¬ LinFrom cap (und ops d') l') from fun d' l' h => by
          rcases (HN9.out.2.2 rfl).2 d' l' h with h | h
          · exact F.out.2.1 d' l' h
          · exact .inr (.inr h))
        go_wp2_with fail
        go_round
        case rel => exact CoR.step HJN.out.1 HM9.out HBD.out hinv.out F.out.2.2.1 hnc.out HG9.out HF9.out
        case measure => simp [intOf]; omega
end Go.Proofs.YtjehiekmlbeaeaaGreat
