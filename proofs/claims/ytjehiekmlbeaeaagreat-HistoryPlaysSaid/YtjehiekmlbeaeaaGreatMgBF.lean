/-
  Stage 11: other values for the same: renamed, slices.Clone of operations.
  Stage 11: renamed; Linear of the program.
-/
import Derived.Test.YtjehiekmlbeaeaaGreatLinP
import Derived.Lib.SliceRun
namespace Go.Proofs.YtjehiekmlbeaeaaGreat
open Go Go.RowKit Go.Maps Go.MapKept
set_option linter.unusedSimpArgs false
set_option linter.unusedVariables false

/-- Many rows more. -/
theorem wpList_appGs {w : World} {ops : Array Oper} {rest : List Oper} {o : Oper} {a : Act} {Q : Exit → Act → World → Prop} {ts t : TypeId} {z : Value} {k b : Nat} (hinfo : (Tryz.prog.info? t).map (fun i => (i.zero, i.size, i.bytes)) = some (some z, k, b))
    (hz : z.cells.size = k) (hk : 0 < k) (hb1 : b ≤ 1000) (hu : Tryz.prog.underlying ts = some (.slice t)) (hgd : o.guard = none) (s x : Operand)
    (ho : o.op = .call { callee := .builtin .append, args := #[s, x], argTypes := #[ts, ts] })
    {base : Nat} {v : Value} {R : List (List Value)} (hs : a.eval s = v) (hown : OwnG w base t k v R) {ad : Addr} {c m : Nat} {Q2 : List (List Value)} (hx : a.eval x = .slice (some ad) m c) (hm : Q2.length = m) (hin : InG w k (some ad) Q2)
    (hn : R.length + m ≤ 1000000) (hb : base ≤ w.heap.size)
    (h : ∀ v' w', OwnG w' base t k v' (R ++ Q2) → w.grownBy w' v.ownBlock → (v'.ownBlock = v.ownBlock ∨ v'.ownBlock = some w.heap.size) → wpList Tryz.prog ops Q rest (a.put o.dst v') w') :
    wpList Tryz.prog ops Q (o :: rest) a w := by
  obtain ⟨i0, hi, hz0, hz1, hz2⟩ := info_partsG hinfo
  have hlen := hin.2.1.len
  refine wpList_append_own_at w hgd s x ts ho base t i0 _ k b hu hi hz0 hz1 hz2 hz hk v R.length R.flatten hs hown.2 ad m c Q2.flatten hx (by rw [hlen, hm]) ?_ hin.2.1.one (by unfold maxLen; omega) ?_ hb ?_
  · intro j u hj
    have hjl : j < Q2.length * k := by rw [← hlen]; exact (List.getElem?_eq_some_iff.1 hj).1
    have hi2 : j / k < Q2.length := Nat.div_lt_of_lt_mul (by rw [Nat.mul_comm]; exact hjl)
    have hj2 : j % k < k := Nat.mod_lt _ hk
    have he : j / k * k + j % k = j := by rw [Nat.mul_comm]; exact Nat.div_add_mod j k
    obtain ⟨x, e, _, hc⟩ := hin.2.2 (j / k) hi2
    cases e
    have h1 := hc (j % k) hj2
    rw [he, ← hin.2.1.get hi2 hj2, he, hj] at h1
    exact h1
  · have : (R.length + m) * b ≤ 1000000 * 1000 := Nat.mul_le_mul hn hb1
    omega
  intro v' w' h1 h2 _ h4
  refine h v' w' ⟨hown.1.append hin.2.1, ?_⟩ h2 h4
  rw [List.flatten_append, List.length_append, hm]
  exact h1
theorem OwnG.made (w : World) (B : Nat) (t : TypeId) (k : Nat) (hb : B ≤ w.heap.size) : OwnG (w.alloc (.cells #[] t)) B t k (.slice (some ⟨w.heap.size, 0, none⟩) 0 0) [] :=
  ⟨RowsK.nil k, World.ownsRow_made w #[] 0 hb (by unfold maxLen; omega) (by simp)⟩
theorem flatten_set {k : Nat} {R : List (List Value)} (h : RowsK k R) {i j : Nat} (hi : i < R.length) (hj : j < k) (u : Value) : R.flatten.set (i * k + j) u = (R.set i ((R.getD i []).set j u)).flatten := by
  induction R generalizing i with
  | nil => simp at hi
  | cons r R ih =>
    have hr := (h r (List.mem_cons_self ..)).1
    cases i with
    | zero =>
      rw [List.flatten_cons, Nat.zero_mul, Nat.zero_add, List.set_append_left _ _ (by omega)]
      rfl
    | succ i =>
      rw [List.flatten_cons, List.set_append_right _ _ (by rw [hr, Nat.add_mul]; omega), hr, show (i + 1) * k + j - k = i * k + j by rw [Nat.add_mul]; omega, ih (fun x hx => h x (List.mem_cons_of_mem _ hx)) (by simpa using hi)]
      rfl
/-- A cell of an element is written. -/
theorem OwnG.put {w : World} {B k : Nat} {t : TypeId} {g n c : Nat} {R : List (List Value)} (h : OwnG w B t k (.slice (some ⟨g, 0, none⟩) n c) R) {i j : Nat} (hi : i < R.length) (hj : j < k) {u : Value} (hu : u.oneCell' = true) :
    OwnG (w.setCell ⟨g, i * k + j, none⟩ u) B t k (.slice (some ⟨g, 0, none⟩) n c) (R.set i ((R.getD i []).set j u)) := by
  have hri : (R.getD i []) ∈ R := by
    rw [List.getD_eq_getElem?_getD, List.getElem?_eq_getElem hi]
    exact List.getElem_mem hi
  refine ⟨fun r hr => ?_, ?_, ?_⟩
  · rcases List.mem_or_eq_of_mem_set hr with hr | rfl
    · exact h.1 r hr
    · refine ⟨by rw [List.length_set]; exact (h.1 _ hri).1, fun v hv => ?_⟩
      rcases List.mem_or_eq_of_mem_set hv with hv | rfl
      · exact (h.1 _ hri).2 v hv
      · exact hu
  · rw [← flatten_set h.1 hi hj, List.length_set, List.length_set]
    exact h.2.1
  · rcases h.2.2 with ⟨e, _⟩ | ⟨g', cap, cur, e, hb, hg, hn, hm, hs, hc⟩
    · cases e
    · simp only [Value.slice.injEq, Option.some.injEq, Addr.mk.injEq] at e
      obtain ⟨⟨rfl, _, _⟩, rfl, rfl⟩ := e
      have hB : Blk w g t cur := hg
      refine .inr ⟨g, c, _, by rw [List.length_set], hb, hB.put (i * k + j) u, by rw [List.length_set]; exact hn, hm, by rw [Array.size_setIfInBounds]; exact hs, ?_⟩
      rw [List.length_set, ← flatten_set h.1 hi hj, ← hc, Array.toList_setIfInBounds, List.take_set]
set_option maxRecDepth 100000 in
set_option maxHeartbeats 4000000 in
theorem cloneOp_any {w : World} {a : Option Addr} {N c : Nat} {l : List OpR} (h : InOp w a l) (hN : l.length = N) (h12 : N ≤ 1000) :
    Calls Tryz.prog 101 #[.slice a N c] w fun e w' => ∃ v, e = .returned v ∧ OwnG w' w.heap.size 80 6 v (l.map opL) ∧ Below w.heap.size w w' := by
  cases a with
  | none =>
    have hq : (binOp .eql 74 (.slice none N c) (.slice none 0 0)).run Tryz.prog w = .ok (.bool true) w := Lib.run_eql_slice_nil w _ 80 _ _ _ _ _ Tryz.underlying74
    have hl : l = [] := by
      cases l with
      | nil => rfl
      | cons o l =>
        obtain ⟨x, e, _⟩ := h.2.2 0 (by simp)
        cases e
    go_enter Tryz.func101, Tryz.ntmps101
    go_wp2
    go_ret
    subst hl
    exact ⟨_, rfl, OwnG.nil _ _ _ _, Below.refl _ _⟩
  | some x =>
    have hq : (binOp .eql 74 (.slice (some x) N c) (.slice none 0 0)).run Tryz.prog w = .ok (.bool false) w := Lib.run_eql_slice_nil w _ 80 _ _ _ _ _ Tryz.underlying74
    have H := Lib.hid (h.below (below_one w (.cells #[] 80)))
    have HO := Lib.hid (OwnG.made w w.heap.size 80 6 (Nat.le_refl _))
    have HB := Lib.hid (below_one w (.cells #[] 80))
    have HN := Lib.hid (show (l.map opL).length = N ∧ N ≤ 1000 from ⟨by rw [List.length_map]; exact hN, h12⟩)
    clear h hN
    go_enter Tryz.func101, Tryz.ntmps101
    go_wp2_with (refine wpList_appGs info_op rfl (by omega) (by omega) Tryz.underlying74 rfl (.tmp 5) (.tmp 6) rfl rfl HO.out rfl HN.out.1 H.out (by have := HN.out.2; simp; omega) (by simp) ?_; intro v' w' hown hgr hv)
    go_ret
    exact ⟨v', rfl, by simpa using hown, below_appG HB.out HO.out hgr⟩
/-- What renamed gives. -/
def RenD (ops : List OpR) (w : World) (e : Ending) (w' : World) : Prop := ∃ (v : Value) (f : Int → Int), e = .returned v ∧ OwnG w' w.heap.size 80 6 v ((ops.map (renO f)).map opL) ∧ Below w.heap.size w w' ∧ Ren ops f ∧ ∀ x, 0 ≤ f x ∧ f x ≤ ops.length
end Go.Proofs.YtjehiekmlbeaeaaGreat

namespace Go.Proofs.YtjehiekmlbeaeaaGreat
open Go Go.RowKit Go.Maps Go.MapKept
set_option linter.unusedSimpArgs false
set_option linter.unusedVariables false

theorem intKeyed : Keyed Tryz.prog 3 := int_keyed Tryz.underlying3
theorem zeroI (w : World) : (zeroValue 3).run Tryz.prog w = .ok (.int .i64 0) w := by kernel_rfl
/-- What the names are behind j operations. -/
structure RnI (ops : List OpR) (j : Nat) (f : Int → Int) (D : DataW Unit) : Prop where
  at_ : ∀ x : Int, D.atKey (.int .i64 x) (.lit (.int .i64 0)) = .lit (.int .i64 (f x))
  has : ∀ x : Int, Maps.has D (.int .i64 x) = decide (f x ≠ 0)
  nz : ∀ x, f x ≠ 0 ↔ ∃ i, i < j ∧ (ops.getD i .zero).c = 1 ∧ (ops.getD i .zero).v = x
  sz : Maps.size D ≤ j
  le : ∀ x, 0 ≤ f x ∧ f x ≤ (Maps.size D : Int)
  inj : ∀ x y, f x = f y → f y ≠ 0 → x = y
section
variable {ops : List OpR} {j : Nat} {f : Int → Int} {D : DataW Unit}
theorem RnI.start (ops : List OpR) : RnI ops 0 (fun _ => 0) (.map []) :=
  ⟨fun x => rfl, fun x => rfl, fun x => ⟨fun h => absurd rfl h, fun ⟨i, hi, _⟩ => by omega⟩, Nat.le_refl _, fun x => ⟨Int.le_refl _, by simp⟩, fun x y _ h => absurd rfl h⟩
theorem RnI.skip (h : RnI ops j f D) (hs : f (ops.getD j .zero).v ≠ 0 ∨ (ops.getD j .zero).c ≠ 1) : RnI ops (j + 1) f D :=
  ⟨h.at_, h.has, fun x => ⟨fun k => by
    obtain ⟨i, hi, r⟩ := (h.nz x).1 k
    exact ⟨i, by omega, r⟩, fun ⟨i, hi, h1, h2⟩ => by
    by_cases e : i = j
    · subst e
      rcases hs with hs | hs
      · rw [h2] at hs; exact hs
      · exact absurd h1 hs
    · exact (h.nz x).2 ⟨i, by omega, h1, h2⟩⟩, by have := h.sz; omega, h.le, h.inj⟩
theorem RnI.put (h : RnI ops j f D) (hT : Tidy D) (hv : f (ops.getD j .zero).v = 0) (hc : (ops.getD j .zero).c = 1) :
    RnI ops (j + 1) (fun x => if x = (ops.getD j .zero).v then (Maps.size D : Int) + 1 else f x) (D.put (.int .i64 (ops.getD j .zero).v) (.lit (.int .i64 ((Maps.size D : Int) + 1)))) := by
  generalize hx : (ops.getD j .zero).v = v at *
  have hM := hT.isMap
  have hK : WideAt.IsKeyLit (Lit.int .i64 v) := trivial
  have hne : ∀ x : Int, x ≠ v → (Lit.int .i64 x) ≠ (Lit.int .i64 v) := fun x hx e => hx (by injection e)
  have hsz : Maps.size (D.put (.int .i64 v) (.lit (.int .i64 ((Maps.size D : Int) + 1)))) = Maps.size D + 1 := by
    rw [size_put hT, if_neg (by rw [h.has, hv]; simp)]
  refine ⟨fun x => ?_, fun x => ?_, fun x => ?_, by rw [hsz]; have := h.sz; omega, fun x => ?_, fun x y hxy hy => ?_⟩
  · by_cases e : x = v
    · subst e
      rw [if_pos rfl]
      exact atKey_put_same hM hK _ _
    · rw [if_neg e]
      exact (atKey_put_other (hne x e) _ _).trans (h.at_ x)
  · by_cases e : x = v
    · subst e
      rw [has_put_same hM hK]
      simp only [if_pos]
      exact (decide_eq_true (by omega)).symm
    · rw [has_put_other (hne x e), h.has]
      simp only [if_neg e]
  · by_cases e : x = v
    · subst e
      simp only [if_pos]
      exact ⟨fun _ => ⟨j, by omega, hc, hx⟩, fun _ => by omega⟩
    · simp only [if_neg e]
      rw [h.nz x]
      constructor
      · rintro ⟨i, hi, r⟩
        exact ⟨i, by omega, r⟩
      · rintro ⟨i, hi, h1, h2⟩
        by_cases ei : i = j
        · subst ei
          exact absurd (h2.symm.trans hx) e
        · exact ⟨i, by omega, h1, h2⟩
  · rw [hsz]
    have := h.le x
    by_cases e : x = v
    · simp only [if_pos e]; omega
    · simp only [if_neg e]; omega
  · have hx' := h.le x
    have hy' := h.le y
    by_cases e : x = v
    · by_cases e2 : y = v
      · rw [e, e2]
      · simp only [if_pos e, if_neg e2] at hxy
        omega
    · by_cases e2 : y = v
      · simp only [if_neg e, if_pos e2] at hxy
        omega
      · simp only [if_neg e, if_neg e2] at hxy hy
        exact h.inj x y hxy hy
end
/-- What the loops of renamed keep. -/
def RnR (w : World) (ops : List OpR) (b : Nat) (i : Value) (wr : World) : Prop :=
  ∃ (j n : Nat) (D : DataW Unit) (f : Int → Int), j ≤ ops.length ∧ i = .int .i64 j ∧ wr.ownsMap Tryz.prog 3 (plainElem Tryz.prog 3) b n D ∧ n ≤ j ∧ RnI ops j f D ∧ Below w.heap.size w wr
def RnR2 (w : World) (ops : List OpR) (f : Int → Int) (D : DataW Unit) (b n : Nat) (v : Value) (i : Value) (wr : World) : Prop :=
  ∃ (j : Nat), j ≤ ops.length ∧ i = .int .i64 j ∧ wr.ownsMap Tryz.prog 3 (plainElem Tryz.prog 3) b n D ∧ OwnG wr w.heap.size 80 6 v (((ops.take j).map (renO f) ++ ops.drop j).map opL) ∧ Below w.heap.size w wr
theorem owns_below {w w' : World} {b n : Nat} {D : DataW Unit} (h : w.ownsMap Tryz.prog 3 (plainElem Tryz.prog 3) b n D) (hb : Below w.heap.size w w') : w'.ownsMap Tryz.prog 3 (plainElem Tryz.prog 3) b n D := by
  have hlt := h.lt
  obtain ⟨es, clock, hb0, r⟩ := h
  exact ⟨es, clock, (hb.block b hlt).trans hb0, r⟩
theorem below_turn {w0 w w' : World} {b : Nat} (hb : Below w0.heap.size w0 w) (hg : w.grownBy w' (some b)) (h : w0.heap.size ≤ b) : Below w0.heap.size w0 w' :=
  below_of_fr hb (fr_grow hg) (fun x hx => by simp at hx; omega)
/-- A row on the way. -/
theorem mid_get (ops : List OpR) (f : Int → Int) {m : Nat} (hm : m < ops.length) : (((ops.take m).map (renO f) ++ ops.drop m).map opL).getD m [] = opL (ops.getD m .zero) := by
  rw [List.getD_eq_getElem?_getD, List.getElem?_map, List.getElem?_append_right (by simp; omega), List.length_map, List.length_take, Nat.min_eq_left (by omega), Nat.sub_self, List.getElem?_drop, Nat.add_zero, List.getD_eq_getElem?_getD, List.getElem?_eq_getElem hm]
  rfl
theorem mid_set (ops : List OpR) (f : Int → Int) {m : Nat} (hm : m < ops.length) : (((ops.take m).map (renO f) ++ ops.drop m).map opL).set m ((opL (ops.getD m .zero)).set 5 (.int .i64 (f (ops.getD m .zero).v))) = ((ops.take (m + 1)).map (renO f) ++ ops.drop (m + 1)).map opL := by
  have e : (opL (ops.getD m .zero)).set 5 (.int .i64 (f (ops.getD m .zero).v)) = opL (renO f (ops.getD m .zero)) := rfl
  rw [e, ← List.map_set]
  congr 1
  have hg : ops.getD m .zero = ops[m] := by
    rw [List.getD_eq_getElem?_getD, List.getElem?_eq_getElem hm]
    rfl
  rw [List.set_append_right _ _ (by simp; omega), List.length_map, List.length_take, Nat.min_eq_left (by omega), Nat.sub_self, List.drop_eq_getElem_cons hm, List.set_cons_zero, List.take_succ_eq_append_getElem hm, List.map_append, List.append_assoc, hg]
  rfl
set_option maxRecDepth 100000 in
set_option maxHeartbeats 16000000 in
theorem renamed_any {w : World} {a : Option Addr} {N c : Nat} {ops : List OpR} (h : InOp w a ops) (hN : ops.length = N) (h12 : N ≤ 12) (hz : ∀ o, o ∈ ops → (Lit.int .i64 o.v).wf = true) :
    Calls Tryz.prog 70 #[.slice a N c] w (RenD ops w) := by
  have HO := Lib.hid (And.intro h (And.intro hN hz))
  have HM := Lib.hid (World.ownsMap_made (H := Unit) w Tryz.prog 3 (plainElem Tryz.prog 3))
  have HB := Lib.hid (below_one w (.map #[] 0))
  have hmm := @run_makeMap Tryz.prog
  clear h hN hz
  go_enter Tryz.func70, Tryz.ntmps70
  go_upto_region 3 with fail
  clear hmm
  generalize w.alloc (.map #[] 0) = W at *
  obtain ⟨b, hb⟩ : ∃ b, w.heap.size = b := ⟨_, rfl⟩
  have HG := Lib.hid (show w.heap.size ≤ b by omega)
  rw [hb] at HM ⊢
  clear hb
  go_wp2_with fail
  go_loopw [13] (fun i wr => RnR w ops b i wr) (fun i _ => N - (intOf i).toNat)
  case atStart => exact ⟨0, 0, _, _, by omega, rfl, HM.out, Nat.le_refl _, RnI.start ops, HB.out⟩
  case round =>
    obtain ⟨j, n, D, f, hj, rfl, hown, hn, hI, hbw⟩ := hrel
    rw [HO.out.2.1] at hj
    have F := Lib.hid (And.intro hI (And.intro hn hbw))
    have HM2 := Lib.hid hown
    clear hI hn hbw hown HM HB
    by_cases hlt : j < N
    case neg =>
      have hjN : j = N := by omega
      subst hjN
      have hf2 : decide ((j : Int) < (j : Int)) = false := by simp
      have hop := HO.out.1.below F.out.2.2
      have HFI := Lib.hid (show Ren ops f ∧ ∀ x, 0 ≤ f x ∧ f x ≤ ops.length from by
        refine ⟨⟨fun o ho hc => ?_, F.out.1.inj⟩, fun x => ?_⟩
        · obtain ⟨i, hi, rfl⟩ := List.getElem_of_mem ho
          refine (F.out.1.nz _).2 ⟨i, by rw [← HO.out.2.1]; exact hi, ?_, ?_⟩
          · rw [List.getD_eq_getElem?_getD, List.getElem?_eq_getElem hi]; exact hc
          · rw [List.getD_eq_getElem?_getD, List.getElem?_eq_getElem hi]; rfl
        · have h1 := F.out.1.le x
          have h2 := F.out.1.sz
          rw [HO.out.2.1]
          omega)
      go_wp2_with fail
      (with_reducible refine (cloneOp_any hop HO.out.2.1 (by omega)).mono ?_)
      rintro e W2 ⟨v, rfl, hv, hb2⟩
      have HM4 := Lib.hid (owns_below HM2.out hb2)
      have HB4 := Lib.hid (F.out.2.2.trans (hb2.mono F.out.2.2.size))
      have HV := Lib.hid (hv.mono F.out.2.2.size)
      obtain ⟨va, vc, rfl, hvc⟩ := hv.form
      have hlen : (ops.map opL).length = j := by rw [List.length_map]; exact HO.out.2.1
      rw [hlen] at HV ⊢
      clear hop hb2 hv HM2 hlen
      go_wp2_with fail
      go_loopw [42] (fun i wr => RnR2 w ops f D b n (.slice va j vc) i wr) (fun i _ => j - (intOf i).toNat)
      case atStart => exact ⟨0, by omega, rfl, HM4.out, by simpa using HV.out, HB4.out⟩
      case round =>
        obtain ⟨m, hm, rfl, hown, hv, hbw⟩ := hrel
        rw [HO.out.2.1] at hm
        have F2 := Lib.hid (And.intro hown (And.intro hv hbw))
        clear hown hv hbw HM4 HV HB4
        by_cases hlt3 : m < j
        case neg =>
          have hmj : m = j := by omega
          subst hmj
          have hf3 : decide ((m : Int) < (m : Int)) = false := by simp
          go_wp2_with fail
          go_ret
          refine ⟨_, f, rfl, ?_, F2.out.2.2, HFI.out.1, HFI.out.2⟩
          have := F2.out.2.1
          rw [List.take_of_length_le (by rw [HO.out.2.1]; exact Nat.le_refl _), List.drop_of_length_le (by rw [HO.out.2.1]; exact Nat.le_refl _), List.append_nil] at this
          exact this
        have hmo : m < ops.length := by rw [HO.out.2.1]; exact hlt3
        have hne : ((ops.take m).map (renO f) ++ ops.drop m).map opL ≠ [] := fun e => by
          have := congrArg List.length e
          simp at this
          omega
        obtain ⟨g, cap, cur, hgv, hBg, hblk, hnc, hml, hcs, hcells⟩ := F2.out.2.1.blk hne
        simp only [Value.slice.injEq] at hgv
        obtain ⟨hva, -, -⟩ := hgv
        obtain ⟨x, hx⟩ : ∃ x : Addr, x = ⟨g, 0, none⟩ := ⟨_, rfl⟩
        have hva2 : va = some x := by rw [hva, hx]
        obtain ⟨o, hoj⟩ : ∃ o, ops.getD m .zero = o := ⟨_, rfl⟩
        have hlen2 : (((ops.take m).map (renO f) ++ ops.drop m).map opL).length = ops.length := by simp; omega
        have hea : (⟨(x.add (m * 6)).block, (x.add (m * 6)).off + 5, none⟩ : Addr) = ⟨g, m * 6 + 5, none⟩ := by
          rw [hx]
          unfold Addr.add
          split
          · rename_i h0
            rw [h0]
          · simp
        have hc5 : wr.cell? ⟨(x.add (m * 6)).block, (x.add (m * 6)).off + 5, none⟩ = some (.int .i64 o.v) := by
          rw [hea, hblk.at_, hcells m 5 (by rw [hlen2]; exact hmo) (by omega), mid_get ops f hmo, hoj]
          rfl
        have hf5 : wr.frozen? ⟨(x.add (m * 6)).block, (x.add (m * 6)).off + 5, none⟩ = false := by
          rw [hea]
          exact hblk.free _
        have HW := Lib.hid (show (Lit.int .i64 o.v).wf = true from by
          have hm2 : ops.getD m .zero ∈ ops := by
            rw [List.getD_eq_getElem?_getD, List.getElem?_eq_getElem hmo]
            exact List.getElem_mem _
          rw [hoj] at hm2
          exact HO.out.2.2 o hm2)
        have HPUT := Lib.hid (fun u : Int => (show OwnG wr w.heap.size 80 6 (.slice (some ⟨g, 0, none⟩) j vc) _ from by have := F2.out.2.1; rwa [hva] at this).put (i := m) (j := 5) (by rw [hlen2]; exact hmo) (by omega) (u := .int .i64 u) rfl)
        have HEA := Lib.hid (And.intro hea (And.intro hx (And.intro hoj (And.intro hmo hBg))))
        have hTY := Lib.hid (show g ≠ b from fun e => by
          obtain ⟨es, clock, hb0, _⟩ := F2.out.1
          rw [← e] at hb0
          have hblk2 := hblk
          unfold Blk at hblk2
          rw [hb0] at hblk2
          cases hblk2)
        rw [hva2]
        have hm0 : (0 : Int) ≤ (m : Int) := by omega
        have hm1 : (m : Int) < (j : Int) := by omega
        clear hva hva2 hne hblk hcells hcs hml hnc hlen2 hea hx hoj hmo hBg
        go_wp2_with (refine wpList_lookup_own_int _ rfl _ _ 217 rfl 3 3 .i64 intKeyed Tryz.underlying217 Tryz.underlying3 (zeroI _) b n D rfl F2.out.1 _ _ rfl (keyOf_int_mk Tryz.underlying3 HW.out) ?_; intro c2 hat hwc)
        have ec : c2 = f o.v := by
          have := (F.out.1.at_ o.v).symm.trans hat
          simpa using this.symm
        subst ec
        refine ⟨?_, by simp [intOf]; omega⟩
        obtain ⟨hea, hx, hoj, hmo, hBg⟩ := HEA.out
        rw [hea]
        have hp := HPUT.out (f o.v)
        rw [mid_get ops f hmo] at hp
        have hms := mid_set ops f hmo
        rw [hoj] at hp hms
        rw [hms] at hp
        refine ⟨m + 1, by omega, by rw [show ((m + 1 : Nat) : Int) = (m : Int) + 1 by omega], ?_, by rw [hx]; exact hp, below_set F2.out.2.2 hBg _⟩
        obtain ⟨es, clock, hb0, r⟩ := F2.out.1
        exact ⟨es, clock, (Below.heap_setCell _ _ _ _ (show b ≠ g from fun e => hTY.out e.symm)).trans hb0, r⟩
    have hlt2 : (j : Int) < (N : Int) := by omega
    have hj0 : (0 : Int) ≤ (j : Int) := by omega
    obtain ⟨x, rfl, hxb, e0, e1, e2, e3, e4, e5⟩ := InOp.op (HO.out.1.below F.out.2.2) (i := j) (by rw [HO.out.2.1]; exact hlt)
    obtain ⟨o, hoj⟩ : ∃ o, ops.getD j .zero = o := ⟨_, rfl⟩
    rw [hoj] at e0 e1 e2 e3 e4 e5
    have HW := Lib.hid (show (Lit.int .i64 o.v).wf = true from by
      have hm : ops.getD j .zero ∈ ops := by
        rw [List.getD_eq_getElem?_getD, List.getElem?_eq_getElem (by rw [HO.out.2.1]; exact hlt)]
        exact List.getElem_mem _
      rw [hoj] at hm
      exact HO.out.2.2 o hm)
    have HJ := Lib.hid hoj
    obtain ⟨ok, om, oa', ob', oc', ov⟩ := o
    clear hoj
    go_upto_region 5 with fail
    clear e0 e1 e2 e3 e4 e5
    have HX := Lib.hid (Blk.made wr 80 (opC ⟨ok, om, oa', ob', oc', ov⟩))
    have HM3 := Lib.hid (owns_below HM2.out (below_one wr (.cells (opC ⟨ok, om, oa', ob', oc', ov⟩) 80)))
    have HB3 := Lib.hid (F.out.2.2.alloc F.out.2.2.size (.cells (opC ⟨ok, om, oa', ob', oc', ov⟩) 80))
    clear HM2
    generalize wr.alloc (.cells (opC ⟨ok, om, oa', ob', oc', ov⟩) 80) = V5 at *
    generalize wr.heap.size = ob at *
    have x5 : V5.cell? ⟨ob, 5, none⟩ = some (.int .i64 ov) := HX.out.at_ 5
    have x4 : V5.cell? ⟨ob, 4, none⟩ = some (.int .i64 oc') := HX.out.at_ 4
    go_upto_region 6 with (refine wpList_lookup_own_ok_int _ rfl _ _ 217 rfl 3 3 .i64 intKeyed Tryz.underlying217 Tryz.underlying3 (zeroI _) b n D rfl HM3.out _ _ rfl (keyOf_int_mk Tryz.underlying3 HW.out) ?_; intro c2 hat hwc)
    clear hat hwc x5
    obtain ⟨hh, ehh⟩ : ∃ hh, Maps.has D (Lit.int .i64 ov) = hh := ⟨_, rfl⟩
    have HHS := Lib.hid (ehh.symm.trans (F.out.1.has ov))
    rw [ehh]
    clear ehh
    cases hh with
    | true =>
      as_aux_lemma =>
      have hI := Lib.hid (F.out.1.skip (.inl (by rw [HJ.out]; exact of_decide_eq_true HHS.out.symm)))
      go_wp2_with fail
      go_round
      case rel => exact ⟨j + 1, n, D, f, by rw [HO.out.2.1]; omega, by go_num, HM3.out, by have := F.out.2.1; omega, hI.out, HB3.out⟩
      case measure => simp [intOf]; omega
    | false =>
    by_cases hc1 : oc' = 1
    case neg =>
      as_aux_lemma =>
      have hI := Lib.hid (F.out.1.skip (.inr (by rw [HJ.out]; exact hc1)))
      have hcb : (oc' == 1) = false := by simpa using hc1
      go_wp2_with fail
      go_round
      case rel => exact ⟨j + 1, n, D, f, by rw [HO.out.2.1]; omega, by go_num, HM3.out, by have := F.out.2.1; omega, hI.out, HB3.out⟩
      case measure => simp [intOf]; omega
    have hcb : (oc' == 1) = true := by simp [hc1]
    have hf0 : f ov = 0 := by
      have := HHS.out.symm
      simpa using this
    have hI := F.out.1.put (HM3.out.tidy intKeyed) (by rw [HJ.out]; exact hf0) (by rw [HJ.out]; exact hc1)
    rw [HJ.out] at hI
    have hsz := F.out.1.sz
    have hlen := fun ty => HM3.out.len Tryz.underlying217 ty
    obtain ⟨s, hs⟩ : ∃ s, Maps.size D = s := ⟨_, rfl⟩
    rw [hs] at hI hsz hlen
    have HI := Lib.hid hI
    have hs0 : (0 : Int) ≤ (s : Int) ∧ (s : Int) ≤ 12 := by omega
    have x5 : V5.cell? ⟨ob, 5, none⟩ = some (.int .i64 ov) := HX.out.at_ 5
    clear hc1 hf0 hI hs hsz
    go_wp2_with (refine wpList_mapUpdate_own _ rfl _ _ _ 217 rfl 3 3 intKeyed Tryz.underlying217 _ b n D rfl HM3.out (by unfold maxLen; have := F.out.2.1; omega) _ _ _ rfl rfl (keyOf_int_mk Tryz.underlying3 HW.out) _ [] (plainElem_int Tryz.underlying3 (WalkArith.wf_i64 (by omega))) ?_; intro w1 hown1 hgrow1)
    go_round
    case rel => exact ⟨j + 1, n + 1, _, _, by rw [HO.out.2.1]; omega, by go_num, hown1, by have := F.out.2.1; omega, HI.out, below_turn HB3.out hgrow1 HG.out⟩
    case measure => simp [intOf]; omega
/-- What Linear answers. -/
def LinG (cap : Int) (ops : List OpR) : Prop := ops.length ≤ 12 ∧ (∀ o, o ∈ ops → WfO o) ∧ LinP cap ops
def LinD (cap : Int) (ops : List OpR) (w : World) (e : Ending) (w' : World) : Prop := ∃ b : Bool, e = .returned (.bool b) ∧ (b = true ↔ LinG cap ops) ∧ Below w.heap.size w w'
theorem stZ_eq : stZ = stA (List.replicate 12 false) [] := rfl
/-- What the loop of Linear keeps. -/
def LiR (w : World) (ops : List OpR) (i : Value) (wr : World) : Prop := ∃ j : Nat, j ≤ ops.length ∧ i = .int .i64 j ∧ (∀ i, i < j → WfO (ops.getD i .zero)) ∧ Below w.heap.size w wr
theorem InOp.wf {ops : List OpR} {N : Nat} (hN : ops.length = N) (h : ∀ i, i < N → WfO (ops.getD i .zero)) : ∀ o, o ∈ ops → WfO o := fun o ho => by
  obtain ⟨i, hi, rfl⟩ := List.getElem_of_mem ho
  have := h i (by omega)
  rwa [List.getD_eq_getElem?_getD, List.getElem?_eq_getElem hi] at this
set_option maxRecDepth 100000 in
set_option maxHeartbeats 16000000 in
theorem linear_any {w : World} {a : Option Addr} {N c : Nat} {ops : List OpR} (cap : Int) (h : InOp w a ops) (hN : ops.length = N) (hz : ∀ o, o ∈ ops → (Lit.int .i64 o.v).wf = true ∧ o.a ≤ 9223372036854775807) :
    Calls Tryz.prog 30 #[.slice a N c, .int .i64 cap] w (LinD cap ops w) := by
  have hml : N ≤ maxLen := by rw [← hN]; exact InOp.len h
  unfold maxLen at hml
  have HO := Lib.hid (And.intro h (And.intro hN hz))
  clear h hz
  by_cases h12 : 12 < N
  · have hR : ¬ LinG cap ops := fun k => by have := k.1; omega
    have HR := Lib.hid hR
    clear hR
    have h12b : (12 : Int) < (N : Int) := by omega
    go_enter Tryz.func30, Tryz.ntmps30
    go_wp2
    go_ret
    exact ⟨false, rfl, ⟨fun e => (by cases e), fun k => absurd k HR.out⟩, Below.refl _ _⟩
  have h12b : (N : Int) ≤ 12 := by omega
  have H12 := Lib.hid (show N ≤ 12 by omega)
  clear h12 hN
  go_enter Tryz.func30, Tryz.ntmps30
  go_wp2_with fail
  go_loopw [13] (fun i wr => LiR w ops i wr) (fun i _ => N - (intOf i).toNat)
  case atStart => exact ⟨0, by omega, rfl, fun i hi => by omega, Below.refl _ _⟩
  case round =>
    obtain ⟨j, hj, rfl, hwf, hbw⟩ := hrel
    rw [HO.out.2.1] at hj
    have F := Lib.hid (And.intro hwf hbw)
    clear hwf hbw
    by_cases hlt : j < N
    case neg =>
      have hjN : j = N := by omega
      subst hjN
      have hf2 : decide ((j : Int) < (j : Int)) = false := by simp
      have hall := Lib.hid (InOp.wf HO.out.2.1 F.out.1)
      have hop := HO.out.1.below F.out.2
      have hmm := @run_makeMap Tryz.prog
      go_wp2_with fail
      (with_reducible refine (renamed_any hop HO.out.2.1 H12.out (fun o ho => (HO.out.2.2 o ho).1)).mono ?_)
      rintro e W2 ⟨v, f, rfl, hv, hb2, hren, hle⟩
      obtain ⟨va, vc, rfl, hvc, hin⟩ := hv.inG
      have hlen : ((ops.map (renO f)).map opL).length = j := by rw [List.length_map, List.length_map]; exact HO.out.2.1
      rw [hlen] at hv ⊢
      have HV := Lib.hid (And.intro hv (And.intro hin (And.intro hren hle)))
      have HB2 := Lib.hid (F.out.2.trans (hb2.mono F.out.2.size))
      clear hop hb2 hv hin hren hle hlen hvc
      go_upto_region 10 with fail
      obtain ⟨mb, hmb⟩ : ∃ mb, W2.heap.size = mb := ⟨_, rfl⟩
      have hS : SrS ((W2.alloc (.map #[] 0)).alloc (.cells (srC va j vc cap mb) 158)) (mb + 1) va j vc cap mb 0 (fun _ _ => False) (ops.map (renO f)) := by
        have hb1 : Below W2.heap.size W2 ((W2.alloc (.map #[] 0)).alloc (.cells (srC va j vc cap mb) 158)) := ((Below.refl _ _).alloc (Nat.le_refl _) _).alloc (by simp) _
        have hs := Blk.made (W2.alloc (.map #[] 0)) 158 (srC va j vc cap mb)
        rw [show (W2.alloc (.map #[] 0)).heap.size = mb + 1 by simp [hmb]] at hs
        have hm := (MSt.made W2).below (below_one _ (.cells (srC va j vc cap mb) 158))
        rw [hmb] at hm
        refine ⟨hs, HV.out.2.1.below hb1, hm, fun x hx => ?_⟩
        subst hx
        have := (HV.out.1.lt x.block rfl).2
        simp
        omega
      have HS := Lib.hid hS
      have HB3 := Lib.hid (show Below w.heap.size w ((W2.alloc (.map #[] 0)).alloc (.cells (srC va j vc cap mb) 158)) from (HB2.out.alloc HB2.out.size _).alloc (by have := HB2.out.size; simp; omega) _)
      have hmb2 := Lib.hid (show w.heap.size ≤ mb by have := HB2.out.size; omega)
      rw [hmb]
      clear hS hmb HB2
      generalize (W2.alloc (.map #[] 0)).alloc (.cells (srC va j vc cap mb) 158) = W3 at *
      have hcall := completes_any (k := j) (d := List.replicate 12 false) (l := []) (by rw [List.length_map]; exact HO.out.2.1) H12.out (fun o ho => by
          obtain ⟨o', ho', rfl⟩ := List.mem_map.1 ho
          exact hall.out o' ho') (fun o ho => by
          obtain ⟨o', ho', rfl⟩ := List.mem_map.1 ho
          have h1 := HV.out.2.2.2 o'.v
          have h2 := H12.out
          have h3 := HO.out.2.1
          exact ⟨wf_small _ (by show 0 ≤ f o'.v ∧ f o'.v ≤ 1000000; omega), (HO.out.2.2 o' ho').2⟩) W3 0 _ HS.out (by simp) (by simp; exact H12.out) (fun x hx => by simp at hx) (by rw [undI_none, List.length_range, List.length_map]; exact HO.out.2.1)
        (by have := memoT_mono H12.out; have := memoT_12; omega) (fun d' l' h => h.elim)
      rw [← stZ_eq] at hcall
      have HC := Lib.hid hcall
      clear hcall
      go_wp2_with fail
      (with_reducible refine HC.out.mono ?_)
      rintro e W4 ⟨b, n', V', rfl, hm, _, hf, hy, hn⟩
      have HR := Lib.hid (show (b = true ↔ LinG cap ops) ∧ Below w.heap.size w W4 from by
        have hiff : LinFrom cap (und (ops.map (renO f)) (List.replicate 12 false)) [] ↔ LinP cap ops := by
          rw [und_none]
          exact ren_lin HV.out.2.2.1 (fun o ho => (hall.out o ho).1)
        refine ⟨⟨fun e => ⟨by rw [HO.out.2.1]; exact H12.out, hall.out, hiff.1 (hy e)⟩, fun k => ?_⟩, below_of_fr HB3.out hf (fun x hx => by simp at hx; have := hmb2.out; omega)⟩
        cases b with
        | true => rfl
        | false => exact absurd (hiff.2 k.2.2) (hn rfl).1)
      clear hm hf hy hn
      go_wp2_with fail
      go_ret
      exact ⟨b, rfl, HR.out.1, HR.out.2⟩
    have hlt2 : (j : Int) < (N : Int) := by omega
    have hj0 : (0 : Int) ≤ (j : Int) := by omega
    obtain ⟨x, rfl, hxb, e0, e1, e2, e3, e4, e5⟩ := InOp.op (HO.out.1.below F.out.2) (i := j) (by rw [HO.out.2.1]; exact hlt)
    obtain ⟨o, hoj⟩ : ∃ o, ops.getD j .zero = o := ⟨_, rfl⟩
    rw [hoj] at e0 e1 e2 e3 e4 e5
    have HJ := Lib.hid hoj
    have HMEM := Lib.hid (show o ∈ ops from by
      rw [← hoj, List.getD_eq_getElem?_getD, List.getElem?_eq_getElem (by rw [HO.out.2.1]; exact hlt)]
      exact List.getElem_mem _)
    obtain ⟨ok, om, oa', ob', oc', ov⟩ := o
    clear hoj
    go_upto_region 6 with fail
    clear e0 e1 e2 e3 e4 e5
    have HX := Lib.hid (Blk.made wr 80 (opC ⟨ok, om, oa', ob', oc', ov⟩))
    have HB3 := Lib.hid (F.out.2.alloc F.out.2.size (.cells (opC ⟨ok, om, oa', ob', oc', ov⟩) 80))
    generalize wr.alloc (.cells (opC ⟨ok, om, oa', ob', oc', ov⟩) 80) = V5 at *
    generalize wr.heap.size = ob at *
    go_wp2_with (refine wpList_load_row rfl 80 (.tmp 6) rfl ob rfl 80 (opC ⟨ok, om, oa', ob', oc', ov⟩) (0, 0) _ HX.out Tryz.underlying80 rfl (by kernel_rfl) ?_)
    (with_reducible refine (pwf_any ⟨ok, om, oa', ob', oc', ov⟩ _).mono ?_)
    rintro e W6 ⟨rfl, hb6⟩
    have HB6 := Lib.hid (HB3.out.trans (hb6.mono HB3.out.size))
    clear hb6
    obtain ⟨bw, hbw⟩ : ∃ bw, decide (WfO ⟨ok, om, oa', ob', oc', ov⟩) = bw := ⟨_, rfl⟩
    rw [hbw]
    have HBW := Lib.hid hbw
    clear hbw
    cases bw with
    | true =>
      have hnx := Lib.hid (show ∀ i, i < j + 1 → WfO (ops.getD i .zero) from fun i hi => by
        by_cases e : i = j
        · rw [e, HJ.out]; exact of_decide_eq_true HBW.out
        · exact F.out.1 i (by omega))
      go_wp2_with fail
      go_round
      case rel => exact ⟨j + 1, by rw [HO.out.2.1]; omega, by go_num, hnx.out, HB6.out⟩
      case measure => simp [intOf]; omega
    | false =>
      have HR := Lib.hid (show ¬ LinG cap ops from fun k => of_decide_eq_false HBW.out (k.2.1 _ HMEM.out))
      go_wp2_with fail
      go_ret
      exact ⟨false, rfl, ⟨fun e => (by cases e), fun k => absurd k HR.out⟩, HB6.out⟩
end Go.Proofs.YtjehiekmlbeaeaaGreat
