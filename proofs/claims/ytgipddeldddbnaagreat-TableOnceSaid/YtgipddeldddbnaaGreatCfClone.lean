/-
  Contracts of slices.Clone and of Clone. (Written by wip/gen_cfclone.py.)
-/
import Derived.Test.YtgipddeldddbnaaGreatMgBK
import Derived.Deep.RegionHeld
import Derived.Lib.SliceRun
namespace Go.Proofs.YtgipddeldddbnaaGreat
open Go Go.RowKit
set_option linter.unusedSimpArgs false

theorem Tris.cellsT {w : World} {B : Nat} {x : Addr} {n : Nat} {l : List T3} (h : Tris w B (some x) n l) : ∀ j u, (cellsT l)[j]? = some u → w.cell? (x.add j) = some u := by
  intro j u hu
  have hj : j < l.length * 3 := by
    rw [← cellsT_length]
    exact (List.getElem?_eq_some_iff.1 hu).1
  obtain ⟨y, e, _, _, h0, h1, h2⟩ := h.2.2 (j / 3) (by rw [← h.1]; omega)
  cases e
  obtain ⟨c0, c1, c2⟩ := cellsT_at l (j / 3) (by omega)
  have hp : j % 3 = 0 ∨ j % 3 = 1 ∨ j % 3 = 2 := by omega
  rcases hp with hp | hp | hp
  · rw [show j / 3 * 3 = j by omega] at h0 c0
    rw [h0, ← c0, hu]
  · rw [show j / 3 * 3 + 1 = j by omega] at h1 c1
    rw [h1, ← c1, hu]
  · rw [show j / 3 * 3 + 2 = j by omega] at h2 c2
    rw [h2, ← c2, hu]
/-- An append of a whole list of triples onto an empty row of the call's own. -/
theorem wpList_appL {w : World} {ops : Array Oper} {rest : List Oper} {o : Oper} {a : Act} {Q : Exit → Act → World → Prop} {t tt : TypeId} (hu : Tryz.prog.underlying tt = some (.slice t))
    (hinfo : (Tryz.prog.info? t).map (fun i => (i.zero, i.size, i.bytes)) = some (some (.agg #[.int .i64 0, .int .i64 0, .int .i64 0]), 3, 24)) (hgd : o.guard = none) (s x : Operand)
    (ho : o.op = .call { callee := .builtin .append, args := #[s, x], argTypes := #[tt, tt] })
    {base B : Nat} {v : Value} (hs : a.eval s = v) (hown : OwnT w base t v []) {ad : Addr} {m c : Nat} {l : List T3} (hx : a.eval x = .slice (some ad) m c) (h3 : Tris w B (some ad) m l) (hn : m ≤ 1000000) (hb : base ≤ w.heap.size)
    (h : ∀ v' w', OwnT w' base t v' l → w.grownBy w' v.ownBlock → wpList Tryz.prog ops Q rest (a.put o.dst v') w') :
    wpList Tryz.prog ops Q (o :: rest) a w := by
  obtain ⟨i0, hi, hz0, hz1, hz2⟩ := info_parts hinfo
  refine wpList_append_own_at w hgd s x tt ho base t i0 _ 3 24 hu hi hz0 hz1 hz2 rfl (by omega) v 0 [] hs hown ad m c (cellsT l) hx (by rw [cellsT_length, h3.1]) h3.cellsT (cellsT_one l) (by unfold maxLen; omega) (by omega) hb ?_
  intro v' w' h1 h2 _ _
  refine h v' w' ?_ h2
  unfold OwnT
  rw [h3.1]
  simpa using h1
/-- What slices.Clone gives of a list of triples. -/
def ClonedT (t : TypeId) (l : List T3) (w : World) (e : Ending) (w' : World) : Prop := ∃ v, e = .returned v ∧ OwnT w' w.heap.size t v l ∧ Below w.heap.size w w'

set_option maxHeartbeats 1000000 in
theorem clonei_any {w : World} {B : Nat} {a : Option Addr} {n : Nat} {l : List T3} (h : Tris w B a n l) (c : Nat) (hn : n ≤ 1000000) :
    Calls Tryz.prog 26 #[.slice a n c] w (ClonedT 84 l w) := by
  cases a with
  | none =>
    have h0 : n = 0 := by
      by_cases h0 : n = 0
      · exact h0
      · obtain ⟨x, e, _⟩ := h.2.2 0 (by omega)
        cases e
    subst h0
    have hl : l = [] := List.eq_nil_of_length_eq_zero h.1
    subst hl
    clear h
    have hq : (binOp .eql 81 (.slice none 0 c) (.slice none 0 0)).run Tryz.prog w = .ok (.bool true) w := Lib.run_eql_slice_nil w _ 84 _ _ _ _ _ Tryz.underlying81
    go_enter Tryz.func26, Tryz.ntmps26
    go_wp2
    go_ret
    exact ⟨_, rfl, OwnT.nil _ _ _, Below.refl _ _⟩
  | some x =>
    have HT := Lib.hid (h.below (below_one w (.cells #[] 84)))
    have hO : OwnT (w.alloc (.cells #[] 84)) w.heap.size 84 (.slice (some ⟨w.heap.size, 0, none⟩) 0 0) [] := World.ownsRow_made w #[] 0 (Nat.le_refl _) (by unfold maxLen; omega) rfl
    have HO := Lib.hid hO
    have HB := Lib.hid (below_one w (.cells #[] 84))
    clear h hO
    have hq : (binOp .eql 81 (.slice (some x) n c) (.slice none 0 0)).run Tryz.prog w = .ok (.bool false) w := Lib.run_eql_slice_nil w _ 84 _ _ _ _ _ Tryz.underlying81
    go_enter Tryz.func26, Tryz.ntmps26
    go_wp2_with
      (at_builtin
       refine wpList_appL Tryz.underlying81 info_instr rfl _ _ rfl rfl HO.out rfl HT.out hn HB.out.size ?_
       intro v2 w2 hown hg
       have HW := Lib.hid hown
       have HF := Lib.hid (fr_below (fr_grown (S := []) (Fr.old HB.out) (fun k hk => (HO.out.lt k hk).1) hg))
       clear hown hg)
    go_ret
    exact ⟨_, rfl, HW.out, HF.out⟩

set_option maxHeartbeats 1000000 in
theorem clones_any {w : World} {B : Nat} {a : Option Addr} {n : Nat} {l : List T3} (h : Tris w B a n l) (c : Nat) (hn : n ≤ 1000000) :
    Calls Tryz.prog 27 #[.slice a n c] w (ClonedT 87 l w) := by
  cases a with
  | none =>
    have h0 : n = 0 := by
      by_cases h0 : n = 0
      · exact h0
      · obtain ⟨x, e, _⟩ := h.2.2 0 (by omega)
        cases e
    subst h0
    have hl : l = [] := List.eq_nil_of_length_eq_zero h.1
    subst hl
    clear h
    have hq : (binOp .eql 28 (.slice none 0 c) (.slice none 0 0)).run Tryz.prog w = .ok (.bool true) w := Lib.run_eql_slice_nil w _ 87 _ _ _ _ _ Tryz.underlying28
    go_enter Tryz.func27, Tryz.ntmps27
    go_wp2
    go_ret
    exact ⟨_, rfl, OwnT.nil _ _ _, Below.refl _ _⟩
  | some x =>
    have HT := Lib.hid (h.below (below_one w (.cells #[] 87)))
    have hO : OwnT (w.alloc (.cells #[] 87)) w.heap.size 87 (.slice (some ⟨w.heap.size, 0, none⟩) 0 0) [] := World.ownsRow_made w #[] 0 (Nat.le_refl _) (by unfold maxLen; omega) rfl
    have HO := Lib.hid hO
    have HB := Lib.hid (below_one w (.cells #[] 87))
    clear h hO
    have hq : (binOp .eql 28 (.slice (some x) n c) (.slice none 0 0)).run Tryz.prog w = .ok (.bool false) w := Lib.run_eql_slice_nil w _ 87 _ _ _ _ _ Tryz.underlying28
    go_enter Tryz.func27, Tryz.ntmps27
    go_wp2_with
      (at_builtin
       refine wpList_appL Tryz.underlying28 info_sub rfl _ _ rfl rfl HO.out rfl HT.out hn HB.out.size ?_
       intro v2 w2 hown hg
       have HW := Lib.hid hown
       have HF := Lib.hid (fr_below (fr_grown (S := []) (Fr.old HB.out) (fun k hk => (HO.out.lt k hk).1) hg))
       clear hown hg)
    go_ret
    exact ⟨_, rfl, HW.out, HF.out⟩

/-- What slices.Clone gives of the programs: a row of the call's own that holds the same slices. -/
def ClonedP (B : Nat) (ps : List (List T3)) (w : World) (e : Ending) (w' : World) : Prop :=
  ∃ (v : Value) (vs : List Value), e = .returned v ∧ vs.length = ps.length ∧ w'.ownsRow w.heap.size 81 1 v ps.length vs ∧
    (∀ i, i < ps.length → ∃ b m c, vs.getD i (.slice none 0 0) = .slice b m c ∧ Tris w' B b m (ps.getD i [])) ∧ Below w.heap.size w w'
theorem vals_in {w : World} {B : Nat} {x : Addr} {n : Nat} {ps : List (List T3)} (h : Prgs w B (some x) n ps) :
    ∃ vs : List Value, vs.length = n ∧ (∀ j u, vs[j]? = some u → w.cell? (x.add j) = some u) ∧ (∀ u ∈ vs, u.oneCell' = true) ∧ ∀ i, i < n → ∃ b m c, vs.getD i (.slice none 0 0) = .slice b m c ∧ Tris w B b m (ps.getD i []) := by
  obtain ⟨vs, hl, hp⟩ := list_of (.slice none 0 0) (fun i (u : Value) => w.cell? (x.add i) = some u ∧ ∃ b m c, u = .slice b m c ∧ Tris w B b m (ps.getD i [])) n (fun i hi => by
    obtain ⟨y, b, m, c, e, _, _, h0, ht⟩ := h.2.2 i hi
    cases e
    exact ⟨_, h0, b, m, c, rfl, ht⟩)
  refine ⟨vs, hl, fun j u hu => ?_, fun u hu => ?_, fun i hi => (hp i hi).2⟩
  · have hj : j < vs.length := (List.getElem?_eq_some_iff.1 hu).1
    have := (hp j (by omega)).1
    rw [List.getD_eq_getElem?_getD, hu] at this
    exact this
  · obtain ⟨j, hj⟩ := List.getElem?_of_mem hu
    have hjl : j < vs.length := (List.getElem?_eq_some_iff.1 hj).1
    obtain ⟨_, b, m, c, e, _⟩ := hp j (by omega)
    rw [List.getD_eq_getElem?_getD, hj] at e
    simp at e
    rw [e]
    rfl
set_option maxHeartbeats 1000000 in
theorem clonep_any {w : World} {B : Nat} {a : Option Addr} {n : Nat} {ps : List (List T3)} (h : Prgs w B a n ps) (c : Nat) (hn : n ≤ 1000000) :
    Calls Tryz.prog 25 #[.slice a n c] w (ClonedP B ps w) := by
  have hlen := h.1
  cases a with
  | none =>
    have h0 : n = 0 := by
      by_cases h0 : n = 0
      · exact h0
      · obtain ⟨x, _, _, _, e, _⟩ := h.2.2 0 (by omega)
        cases e
    subst h0
    have hl : ps = [] := List.eq_nil_of_length_eq_zero h.1
    subst hl
    clear h hlen
    have hq : (binOp .eql 27 (.slice none 0 c) (.slice none 0 0)).run Tryz.prog w = .ok (.bool true) w := Lib.run_eql_slice_nil w _ 81 _ _ _ _ _ Tryz.underlying27
    go_enter Tryz.func25, Tryz.ntmps25
    go_wp2
    go_ret
    exact ⟨_, [], rfl, rfl, World.ownsRow_nil _ _ _ _, fun i hi => by simp at hi, Below.refl _ _⟩
  | some x =>
    obtain ⟨i0, hi, hz0, hz1, hz2⟩ := info_parts info_code
    obtain ⟨vs, hv1, hv2', hv3, hv4⟩ := vals_in h
    have hv2 : ∀ j u, vs[j]? = some u → (w.alloc (.cells #[] 81)).cell? (x.add j) = some u := fun j u hu => ((below_one w _).cell (World.block_lt_of_cell? w _ (hv2' j u hu))).trans (hv2' j u hu)
    have HO := Lib.hid (show (w.alloc (.cells #[] 81)).ownsRow w.heap.size 81 1 (.slice (some ⟨w.heap.size, 0, none⟩) 0 0) 0 [] from World.ownsRow_made w #[] 0 (Nat.le_refl _) (by unfold maxLen; omega) rfl)
    have HB := Lib.hid (below_one w (.cells #[] 81))
    have H1 := Lib.hid hv1
    have H2 := Lib.hid hv2
    have H3 := Lib.hid hv3
    have H4 := Lib.hid hv4
    have HL := Lib.hid hlen
    clear h hv1 hv2 hv2' hv3 hv4 hlen
    have hq : (binOp .eql 27 (.slice (some x) n c) (.slice none 0 0)).run Tryz.prog w = .ok (.bool false) w := Lib.run_eql_slice_nil w _ 81 _ _ _ _ _ Tryz.underlying27
    go_enter Tryz.func25, Tryz.ntmps25
    go_wp2_with
      (at_builtin
       refine wpList_append_own_at _ rfl _ _ 27 rfl w.heap.size 81 i0 _ 1 24 Tryz.underlying27 hi hz0 hz1 hz2 rfl (by omega) _ 0 [] rfl HO.out x n _ vs rfl (by rw [H1.out, Nat.mul_one]) H2.out H3.out (by unfold maxLen; omega) (by omega) HB.out.size ?_
       intro v2 w2 hown hg _ _
       have HW := Lib.hid hown
       have HF := Lib.hid (fr_below (fr_grown (S := []) (Fr.old HB.out) (fun k hk => (World.ownsRow.lt HO.out k hk).1) hg))
       have HG := Lib.hid hg
       clear hown hg)
    go_ret
    refine ⟨_, vs, rfl, by rw [H1.out, HL.out], ?_, fun i hi2 => ?_, HF.out⟩
    · have := HW.out
      rw [HL.out]
      simpa using this
    · obtain ⟨b, m, cp, e, ht⟩ := H4.out i (by rw [← HL.out]; exact hi2)
      exact ⟨b, m, cp, e, ht.below HF.out⟩
end Go.Proofs.YtgipddeldddbnaaGreat
