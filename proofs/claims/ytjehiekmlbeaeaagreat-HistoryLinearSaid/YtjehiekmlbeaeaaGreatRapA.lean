/-
  The reference's apply: an operation on a list.
-/
import Derived.Test.YtjehiekmlbeaeaaGreatMgAN
import Derived.Test.YtjehiekmlbeaeaaGreatMgBJ
import Derived.Test.YtjehiekmlbeaeaaGreatMgAW
import Derived.Test.YtjehiekmlbeaeaaGreatMgAB
import Derived.Lib.Hide
import Derived.Deep.QuietTactic
import Derived.BigQuiet
namespace Go.Proofs.YtjehiekmlbeaeaaGreat
open Go Go.RowKit
set_option linter.unusedSimpArgs false
set_option linter.unusedVariables false

/-- The slice v reads as the numbers l; they don't lie in block ub. -/
def InV (w : World) (ub : Nat) (v : Value) (l : List Int) : Prop := ∃ a c, v = .slice a l.length c ∧ l.length ≤ c ∧ InInts w a l.length l ∧ l.length ≤ 1000 ∧ (∀ x, a = some x → x.block ≠ ub) ∧ (a = none → c = 0)
theorem InV.fr {w w' : World} {ub : Nat} {v : Value} {l : List Int} (h : InV w ub v l) (hf : Fr [ub] w w') : InV w' ub v l := by
  obtain ⟨a, c, e, hc, hi, hl, hu, hn⟩ := h
  refine ⟨a, c, e, hc, ⟨hi.1, hi.2.1, fun i hlt => ?_⟩, hl, hu, hn⟩
  obtain ⟨x, hx, hb, hcell⟩ := hi.2.2 i hlt
  refine ⟨x, hx, Nat.lt_of_lt_of_le hb hf.size, ?_⟩
  rw [← hcell]
  have hbl : (x.add i).block = x.block := by unfold Addr.add; split <;> rfl
  exact World.cell?_of_block (w := w) (by rw [hbl]; exact hf.block x.block hb (by simpa using hu x hx))
/-- An append as an operation of a drawn region, numbers. -/
theorem wp_appIs {w : World} {o : Oper} {a : Act} {K : Act → World → Prop} {Q : Exit → Act → World → Prop} (s x : Operand)
    (ho : o.op = .call { callee := .builtin .append, args := #[s, x], argTypes := #[60, 60] })
    {base : Nat} {v : Value} {l : List Int} (hs : a.eval s = v) (hown : OwnI w base v l) {ad : Addr} {m c : Nat} {ns : List Int} (hx : a.eval x = .slice (some ad) m c) (hl : ns.length = m)
    (hnews : ∀ j u, (ns.map (Value.int .i64))[j]? = some u → w.cell? (ad.add j) = some u) (hn : l.length + m ≤ 1000000) (hb : base ≤ w.heap.size)
    (h : ∀ v' w', OwnI w' base v' (l ++ ns) → w.grownBy w' v.ownBlock → K (a.put o.dst v') w') :
    o.wp Tryz.prog a w K Q := by
  obtain ⟨i0, hi, hz0, hz1, hz2⟩ := info_parts info_int
  obtain ⟨v', w', hr2, h2, h3, _, h5⟩ := run_append_own_at (P := Tryz.prog) w base 60 o.type 3 i0 _ 1 8 Tryz.underlying60 hi hz0 hz1 hz2 rfl (by omega) v l.length (l.map (Value.int .i64)) hown ad m c (ns.map (Value.int .i64)) (by simpa using hl) hnews (ints_one ns) (by unfold maxLen; omega) (by omega) hb
  unfold Oper.wp execOp
  simp only [ho, resolve, invoke, builtin, Sem.run_bind, Sem.run_pure, Result.andThen_ok, List.map_toArray, List.map_cons, List.map_nil, hs, hx, hr2]
  refine h v' w' ?_ h3
  unfold OwnI
  rw [List.map_append, List.length_append, hl]
  exact h2
theorem head_getD (l : List Int) (h : 0 < l.length) : l.headD 0 = l.getD 0 0 := by
  cases l with
  | nil => simp at h
  | cons x l => rfl
theorem tail_getD (l : List Int) (i : Nat) : l.tail.getD i 0 = l.getD (i + 1) 0 := by
  cases l with
  | nil => rfl
  | cons x l => rfl
theorem last_getD (l : List Int) {M : Nat} (h : l.length = M + 1) : l.getLastD 0 = l.getD M 0 := by
  rw [List.getLastD_eq_getLast?, List.getLast?_eq_getElem?, List.getD_eq_getElem?_getD, h]
  rfl
section
variable {cap : Int} {o : OpR} {l : List Int}
theorem appO_f3 (h : o.c = 3) (hl : ¬ cap ≤ (l.length : Int)) : appO cap o l = none := by
  unfold appO
  rw [if_neg (by omega), if_pos h, if_neg hl]
theorem appO_f2 (h : o.c = 2) (hl : ¬ l.length = 0) : appO cap o l = none := by
  unfold appO
  rw [if_neg (by omega), if_neg (by omega), if_pos h, if_neg hl]
theorem appO_f0 (h : o.c = 0) (hl : ¬ (l.length : Int) < cap) : appO cap o l = none := by
  unfold appO
  rw [if_pos h, if_neg hl]
theorem appO_else {k m oa ob oc ov : Int} (h0 : ¬ oc = 0) (h3 : ¬ oc = 3) (h2 : ¬ oc = 2) (h4 : ¬ oc = 4) : appO cap ⟨k, m, oa, ob, oc, ov⟩ l = if l.length = 0 then none else if k = 1 then (if l.getLastD 0 = ov then some l.dropLast else none) else (if l.headD 0 = ov then some l.tail else none) := by
  unfold appO
  rw [if_neg h0, if_neg h3, if_neg h2, if_neg h4]
end
/-- .. the numbers of a list. -/
theorem wp_appL {w : World} {o : Oper} {a : Act} {K : Act → World → Prop} {Q : Exit → Act → World → Prop} (s x : Operand)
    (ho : o.op = .call { callee := .builtin .append, args := #[s, x], argTypes := #[60, 60] })
    {base : Nat} {v : Value} {l0 l : List Int} (hs : a.eval s = v) (hown : OwnI w base v l0) {ax : Option Addr} {m c : Nat} (hx : a.eval x = .slice ax m c) (hin : InInts w ax m l) (hn0 : ax = none → c = 0) (hn : l0.length + m ≤ 1000000) (hb : base ≤ w.heap.size)
    (h : ∀ v' w', OwnI w' base v' (l0 ++ l) → w.grownBy w' v.ownBlock → K (a.put o.dst v') w') :
    o.wp Tryz.prog a w K Q := by
  cases ax with
  | some ad =>
    refine wp_appIs s x ho hs hown hx hin.1 (fun j u hj => ?_) hn hb h
    rw [List.getElem?_map] at hj
    have hj2 : j < m := by
      rw [← hin.1]
      cases hjj : l[j]? with
      | none => rw [hjj] at hj; cases hj
      | some y => exact (List.getElem?_eq_some_iff.1 hjj).1
    obtain ⟨y, hy, _, hc⟩ := hin.2.2 j hj2
    cases hy
    rw [hc, ← hj, List.getD_eq_getElem?_getD, List.getElem?_eq_getElem (by rw [hin.1]; exact hj2)]
    rfl
  | none =>
    have hl : l = [] := by
      cases l with
      | nil => rfl
      | cons y l =>
        have := hin.1
        obtain ⟨z, hz, _⟩ := hin.2.2 0 (by simp at this; omega)
        cases hz
    subst hl
    obtain rfl : m = 0 := hin.1.symm
    obtain rfl := hn0 rfl
    obtain ⟨i0, hi, hz0, hz1, hz2⟩ := info_parts info_int
    have hr := run_append_owned_none (P := Tryz.prog) (w := w) base 60 o.type 3 i0 1 Tryz.underlying60 hi v l0.length (l0.map (Value.int .i64)) hown
    have hK := h v w (by rw [List.append_nil]; exact hown) ⟨rfl, rfl, rfl, Nat.le_refl _, fun _ _ _ => rfl⟩
    unfold Oper.wp execOp
    simp only [ho, resolve, invoke, builtin, Sem.run_bind, Sem.run_pure, Result.andThen_ok, List.map_toArray, List.map_cons, List.map_nil, hs, hx, hr]
    exact hK
/-- What apply gives. -/
def RapD (cap : Int) (o : OpR) (l : List Int) (ub : Nat) (w : World) (e : Ending) (w' : World) : Prop :=
  ∃ (v' : Value) (b : Bool), e = .returned (.tuple #[v', .bool b]) ∧ Below w.heap.size w w' ∧ (b = true → ∃ l', appO cap o l = some l' ∧ InV w' ub v' l') ∧ (b = false → appO cap o l = none)
set_option maxRecDepth 100000 in
set_option maxHeartbeats 4000000 in
theorem rapply_rest {w : World} {o : OpR} {l : List Int} {a : Option Addr} {c ub : Nat} {cap : Int} (h : InInts w a l.length l) (hc : l.length ≤ c) (hl : l.length ≤ 1000) (hub : ∀ x, a = some x → x.block ≠ ub) (hn0 : a = none → c = 0) (hc0 : o.c ≠ 0) :
    Calls Tryz.prog 104 #[.agg (opC o), .slice a l.length c, .int .i64 cap] w (RapD cap o l ub w) := by
  obtain ⟨k, m, oa, ob, oc, ov⟩ := o
  have hB := Lib.hid (below_one w (.cells (opC ⟨k, m, oa, ob, oc, ov⟩) 80))
  have hE := Blk.made w 80 (opC ⟨k, m, oa, ob, oc, ov⟩)
  have e0 := hE.at_ 0
  have e4 := hE.at_ 4
  have e5 := hE.at_ 5
  have HI := Lib.hid (h.below hB.out)
  have HV := Lib.hid (show InV (w.alloc (.cells (opC ⟨k, m, oa, ob, oc, ov⟩) 80)) ub (.slice a l.length c) l from ⟨a, c, rfl, hc, h.below hB.out, hl, hub, hn0⟩)
  have HUB := Lib.hid (And.intro hub (And.intro hc hl))
  replace hc0 : ¬ oc = 0 := hc0
  clear h hE hub hn0
  obtain ⟨N, hN⟩ : ∃ N, l.length = N := ⟨_, rfl⟩
  rw [hN] at HI HV HUB hc hl ⊢
  have HNN := Lib.hid hN
  clear hN
  have z0 : (oc == 0) = false := by simp [hc0]
  by_cases h3 : oc = 3
  · subst h3
    go_enter Tryz.func104, Tryz.ntmps104
    go_wp2_with fail
    go_ret2
    refine ⟨_, _, rfl, hB.out, fun hb => ⟨l, appO_full rfl (by rw [HNN.out]; simpa using hb), HV.out⟩, fun hb => ?_⟩
    exact appO_f3 rfl (by rw [HNN.out]; simpa using hb)
  have z3 : (oc == 3) = false := by simp [h3]
  by_cases h2 : oc = 2
  · subst h2
    go_enter Tryz.func104, Tryz.ntmps104
    go_wp2_with fail
    go_ret2
    refine ⟨_, _, rfl, hB.out, fun hb => ⟨l, appO_none rfl (List.eq_nil_of_length_eq_zero (by rw [HNN.out]; simpa using hb)), HV.out⟩, fun hb => ?_⟩
    exact appO_f2 rfl (by rw [HNN.out]; simpa using hb)
  have z2 : (oc == 2) = false := by simp [h2]
  by_cases h4 : oc = 4
  · subst h4
    go_enter Tryz.func104, Tryz.ntmps104
    go_wp2_with fail
    go_ret2
    exact ⟨_, _, rfl, hB.out, fun hb => ⟨l, appO_abort rfl, HV.out⟩, fun hb => absurd hb (by decide)⟩
  have z4 : (oc == 4) = false := by simp [h4]
  have HC := Lib.hid (show ∀ l', appO cap ⟨k, m, oa, ob, oc, ov⟩ l' = if l'.length = 0 then none else if k = 1 then (if l'.getLastD 0 = ov then some l'.dropLast else none) else (if l'.headD 0 = ov then some l'.tail else none) from fun l' => appO_else hc0 h3 h2 h4)
  clear h2 h3 h4 hc0
  by_cases hN0 : N = 0
  · have y0 : ((N : Int) == 0) = true := by simp [hN0]
    have HN0 := Lib.hid hN0
    clear hN0
    go_enter Tryz.func104, Tryz.ntmps104
    go_wp2_with fail
    go_ret2
    exact ⟨_, _, rfl, hB.out, fun hb => absurd hb (by decide), fun _ => by rw [HC.out, if_pos (by rw [HNN.out]; exact HN0.out)]⟩
  have y0 : ((N : Int) == 0) = false := by simp [hN0]
  obtain ⟨M, hM⟩ : ∃ M, N = M + 1 := ⟨N - 1, by omega⟩
  have HM := Lib.hid hM
  have hM1 : (N : Int) - 1 = (M : Int) := by omega
  have hM2 : (M : Int) < (N : Int) := by omega
  have hM3 : (0 : Int) ≤ (M : Int) := by omega
  have hM4 : M ≤ 1000 := by omega
  have hM5 : (M : Int) ≤ (c : Int) := by omega
  have hN1 : (1 : Int) ≤ (N : Int) := by omega
  have hN2 : (0 : Int) < (N : Int) := by omega
  have hc1 : (1 : Int) ≤ (c : Int) := by omega
  obtain ⟨x, rfl, hxb, _⟩ := HI.out.2.2 0 (by omega)
  have cM := HI.out.cell (i := M) (by omega)
  have c00 := HI.out.cell (i := 0) (by omega)
  obtain ⟨uM, huM⟩ : ∃ u, l.getD M 0 = u := ⟨_, rfl⟩
  obtain ⟨u0, hu0⟩ : ∃ u, l.getD 0 0 = u := ⟨_, rfl⟩
  rw [huM] at cM
  rw [hu0] at c00
  have HUM := Lib.hid (And.intro huM hu0)
  have hx0 : x.add 0 = x := by unfold Addr.add; rfl
  rw [hx0] at c00
  clear hM huM hu0 hxb hx0
  by_cases hk : k = 1
  · subst hk
    go_enter Tryz.func104, Tryz.ntmps104
    go_wp2_with fail
    go_quiet (fail)
    go_wp2
    go_ret2
    refine ⟨.slice (some x) M c, (uM == ov), rfl, hB.out.trans ((below_drewN _ _).mono hB.out.size), fun hb => ?_, fun hb => ?_⟩
    · have hu : uM = ov := by simpa using hb
      refine ⟨l.dropLast, ?_, ?_⟩
      · rw [HC.out, if_neg (by rw [HNN.out]; omega), if_pos trivial, if_pos (by rw [last_getD l (by rw [HNN.out]; exact HM.out), HUM.out.1]; exact hu)]
      · refine ⟨some x, c, by rw [List.length_dropLast, HNN.out, show N - 1 = M by have := HM.out; omega], by rw [List.length_dropLast, HNN.out]; omega, ?_, by rw [List.length_dropLast, HNN.out]; omega, HUB.out.1, fun e => by cases e⟩
        have hh := HI.out.below (below_drewN _ nq)
        refine ⟨rfl, by have := hh.2.1; rw [List.length_dropLast, HNN.out]; omega, fun i hi => ?_⟩
        rw [List.length_dropLast, HNN.out] at hi
        obtain ⟨y, hy, hyb, hcell⟩ := hh.2.2 i (by omega)
        refine ⟨y, hy, hyb, ?_⟩
        rw [hcell]
        congr 2
        rw [List.getD_eq_getElem?_getD, List.getD_eq_getElem?_getD, List.getElem?_dropLast, if_pos (by rw [HNN.out]; omega)]
    · have hu : ¬ uM = ov := by simpa using hb
      rw [HC.out, if_neg (by rw [HNN.out]; omega), if_pos trivial, if_neg (by rw [last_getD l (by rw [HNN.out]; exact HM.out), HUM.out.1]; exact hu)]
  · have z1 : (k == 1) = false := by simp [hk]
    have HK := Lib.hid hk
    clear hk
    by_cases hcc : c = 1
    · subst hcc
      go_enter Tryz.func104, Tryz.ntmps104
      go_wp2_with fail
      go_quiet (fail)
      go_wp2
      go_ret2
      refine ⟨.slice (some x) 0 0, (u0 == ov), rfl, hB.out.trans ((below_drewN _ _).mono hB.out.size), fun hb => ?_, fun hb => ?_⟩
      · have hu : u0 = ov := by simpa using hb
        refine ⟨l.tail, ?_, ?_⟩
        · rw [HC.out, if_neg (by rw [HNN.out]; omega), if_neg HK.out, if_pos (by rw [head_getD l (by rw [HNN.out]; omega), HUM.out.2]; exact hu)]
        · have hh := HI.out.below (below_drewN _ nq)
          refine ⟨some x, 0, by rw [List.length_tail, HNN.out, show N - 1 = 0 by omega], by rw [List.length_tail, HNN.out]; omega, ⟨rfl, by rw [List.length_tail, HNN.out]; unfold maxLen; omega, fun i hi => ?_⟩, by rw [List.length_tail, HNN.out]; omega, HUB.out.1, fun e => by cases e⟩
          rw [List.length_tail, HNN.out] at hi
          omega
      · have hu : ¬ u0 = ov := by simpa using hb
        rw [HC.out, if_neg (by rw [HNN.out]; omega), if_neg HK.out, if_neg (by rw [head_getD l (by rw [HNN.out]; omega), HUM.out.2]; exact hu)]
    · skip
      go_enter Tryz.func104, Tryz.ntmps104
      go_wp2_with fail
      go_quiet (fail)
      go_wp2
      go_ret2
      refine ⟨.slice (some ⟨x.block, x.off + 1, none⟩) (N - 1) (c - 1), (u0 == ov), rfl, hB.out.trans ((below_drewN _ _).mono hB.out.size), fun hb => ?_, fun hb => ?_⟩
      · have hu : u0 = ov := by simpa using hb
        refine ⟨l.tail, ?_, ?_⟩
        · rw [HC.out, if_neg (by rw [HNN.out]; omega), if_neg HK.out, if_pos (by rw [head_getD l (by rw [HNN.out]; omega), HUM.out.2]; exact hu)]
        · have hh := HI.out.below (below_drewN _ nq)
          refine ⟨some ⟨x.block, x.off + 1, none⟩, c - 1, by rw [List.length_tail, HNN.out], by rw [List.length_tail, HNN.out]; have := HUB.out.2.1; omega, ⟨rfl, by rw [List.length_tail, HNN.out]; unfold maxLen; omega, fun i hi => ?_⟩, by rw [List.length_tail, HNN.out]; omega, fun y hy => (by cases hy; exact HUB.out.1 x rfl), fun e => by cases e⟩
          rw [List.length_tail, HNN.out] at hi
          obtain ⟨y, hy, hyb, hcell⟩ := hh.2.2 (i + 1) (by omega)
          cases hy
          refine ⟨_, rfl, hyb, ?_⟩
          have e : (⟨x.block, x.off + 1, none⟩ : Addr).add i = x.add (i + 1) := by
            unfold Addr.add
            split
            · rename_i h0
              subst h0
              simp
            · simp
              omega
          rw [e, hcell]
          rw [tail_getD]
      · have hu : ¬ u0 = ov := by simpa using hb
        rw [HC.out, if_neg (by rw [HNN.out]; omega), if_neg HK.out, if_neg (by rw [head_getD l (by rw [HNN.out]; omega), HUM.out.2]; exact hu)]
end Go.Proofs.YtjehiekmlbeaeaaGreat
