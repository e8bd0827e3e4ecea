/-
  The reference's Push and Pop of layer 14, few, Same of slices that read as words.
-/
import Derived.Test.YtjejnkkefkompaaEdB
import Derived.OwnWalk
import Derived.Laws.AppendOwnNone
namespace Go.Proofs.Ytjejnkkefkompaa
open Go Go.RowKit
set_option linter.unusedSimpArgs false
set_option linter.unusedVariables false

/-- An append of what reads as words. -/
theorem wpList_appUN {w : World} {ops : Array Oper} {rest : List Oper} {o : Oper} {a : Act} {Q : Exit → Act → World → Prop} (hgd : o.guard = none) (s x : Operand)
    (ho : o.op = .call { callee := .builtin .append, args := #[s, x], argTypes := #[22, 22] })
    {base : Nat} {v vx : Value} {l ns : List Int} (hs : a.eval s = v) (hown : OwnW w base v l) (hx : a.eval x = vx) (hin : WV w vx ns) (hn : l.length + ns.length ≤ 1000000) (hb : base ≤ w.heap.size)
    (h : ∀ v' w', OwnW w' base v' (l ++ ns) → w.grownBy w' v.ownBlock → (v ≠ .slice none 0 0 → v' ≠ .slice none 0 0) → wpList Try.prog ops Q rest (a.put o.dst v') w') :
    wpList Try.prog ops Q (o :: rest) a w := by
  obtain ⟨ax, m, c, rfl, hi, hc, ha⟩ := hin
  obtain ⟨i0, hi0, hz0, hz1, hz2⟩ := info_partsG info_w64
  cases ax with
  | some ad =>
    rw [hi.1] at hn
    refine wpList_append_own_at w hgd s x 22 ho base 23 i0 _ 1 8 Try.underlying22 hi0 hz0 hz1 hz2 rfl (by omega) v l.length (l.map (Value.int .u64)) hs hown ad m c (ns.map (Value.int .u64)) hx (by simpa using hi.1) (fun j u hj => ?_) (words_one ns) (by unfold maxLen; omega) (by omega) hb ?_
    · rw [List.getElem?_map] at hj
      have hj2 : j < m := by
        rw [← hi.1]
        cases hjj : ns[j]? with
        | none => rw [hjj] at hj; cases hj
        | some y => exact (List.getElem?_eq_some_iff.1 hjj).1
      rw [hi.cell hj2, ← hj, List.getD_eq_getElem?_getD, List.getElem?_eq_getElem (by rw [hi.1]; exact hj2)]
      rfl
    · intro v' w' h1 h2 h3 _
      refine h v' w' ?_ h2 (fun hv e => hv (h3.1 e).1)
      unfold OwnW
      rw [List.map_append, List.length_append, hi.1]
      exact h1
  | none =>
    have hl : ns = [] := by
      cases ns with
      | nil => rfl
      | cons y l =>
        obtain ⟨_, e, _⟩ := hi.2.2 0 (by have := hi.1; simp at this; omega)
        cases e
    subst hl
    have hm : m = 0 := hi.1.symm
    subst hm
    obtain rfl := ha rfl
    refine wpList_append_own_none hgd s x 22 ho base 23 i0 1 Try.underlying22 hi0 v l.length _ hs hown hx ?_
    have := h v w (by simpa using hown) ⟨rfl, rfl, rfl, Nat.le_refl _, fun _ _ _ => rfl⟩ (fun hv => hv)
    exact this
theorem OwnW.made0 (w : World) : OwnW (w.alloc (.cells #[] 23)) w.heap.size (.slice (some ⟨w.heap.size, 0, none⟩) 0 0) [] := OwnW.lit w w.heap.size [] (Nat.le_refl _) (by simp)
theorem OwnW.row {w : World} {B : Nat} {v : Value} {X : List Int} (h : OwnW w B v X) (h0 : 0 < X.length) : ∃ g c, v = .slice (some ⟨g, 0, none⟩) X.length c ∧ B ≤ g ∧ Row w g X.length c X := by
  refine Row.of_own h (fun e => ?_)
  subst e
  rcases h.2 with ⟨_, h2⟩ | ⟨g, cap, cur, e, _⟩
  · omega
  · cases e

set_option maxRecDepth 100000 in
set_option maxHeartbeats 2000000 in
theorem rpush14_any {w : World} {v : Value} {X : List Int} (k : Int) (h : WV w v X) (hl : X.length ≤ 900) :
    Calls Try.prog 12 #[v, .int .u64 k] w fun e w' => ∃ v', e = .returned v' ∧ NewW w w' v' (pushE X k) := by
  have HI := Lib.hid (h.below (below_one w (.cells #[] 23)))
  have HO := Lib.hid (OwnW.made0 w)
  have HB := Lib.hid (below_one w (.cells #[] 23))
  obtain ⟨a, n, c, rfl, hi, hc, ha⟩ := h
  have hn := hi.1
  clear hi hc ha
  go_enter Try.func12, Try.ntmps12
  go_wp2_with (at_builtin; refine Hid.out ?_)
  refine Lib.hid ?_
  refine wpList_appUN rfl _ _ rfl rfl HO.out rfl HI.out (by simp; omega) (by simp) ?_
  intro v1 w1 ho1 hg1 _
  rw [List.nil_append] at ho1
  have hb1 := below_appU HB.out HO.out (Nat.le_refl _) hg1
  have HB1 := Lib.hid (hb1.trans ((below_one w1 (.cells #[.int .u64 k] 23)).mono hb1.size))
  have HO1 := Lib.hid (ho1.alloc (.cells #[.int .u64 k] 23))
  have HN := Lib.hid ((OwnW.lit w1 w1.heap.size [k] (Nat.le_refl _) (by unfold maxLen; simp)).wv)
  clear ho1 hg1 hb1 HO HB HI
  go_wp2_with (at_builtin; refine Hid.out ?_)
  refine Lib.hid ?_
  refine wpList_appUN rfl _ _ rfl rfl HO1.out rfl HN.out (by simp; omega) HB1.out.size ?_
  intro v2 w2 ho2 hg2 _
  have hb2 := below_appU HB1.out HO1.out (Nat.le_refl _) hg2
  obtain ⟨g, c2, rfl, hg, hr⟩ := ho2.row (by simp)
  have hlen : (X ++ [k]).length = n + 1 := by simp [hn]
  rw [hlen] at hr
  rw [hlen]
  have HR := Lib.hid hr
  have HB2 := Lib.hid (And.intro hg hb2)
  clear ho2 hg2 hb2 hr hg HO1 HB1 HN hlen
  rw [hn] at hl
  have e1 : X ++ [k] = (X ++ [0]).set n k := by
    rw [List.set_append_right _ _ (by omega), hn, Nat.sub_self]
    rfl
  have e2 : pushE X k = riseE (X ++ [0]) n k := by unfold pushE; rw [hn]
  have E2 := Lib.hid e2
  have E1 := Lib.hid e1
  have hn1 : n + 1 ≤ 1000 := by omega
  clear e1 e2 hn
  go_wp2_with fail
  go_loopw [6] (fun i wr => ∃ (j : Nat) (Y : List Int), i = .int .i64 j ∧ j < n + 1 ∧ riseE Y j k = pushE X k ∧ Row wr g (n + 1) c2 (Y.set j k) ∧ Below w.heap.size w wr) (fun i _ => (intOf i).toNat)
  case atStart => exact ⟨n, X ++ [0], by go_num, by omega, E2.out.symm, by rw [← E1.out]; exact HR.out, HB2.out.2⟩
  case round =>
    obtain ⟨j, Y, rfl, hj, he, hr, hb⟩ := hrel
    have hg := HB2.out.1
    have HE := Lib.hid he
    have HRR := Lib.hid hr
    have HBB := Lib.hid hb
    have hYl : Y.length = n + 1 := by have := hr.len; simpa using this
    clear he hr hb HR E1 E2 HB2
    by_cases h0 : j = 0
    · subst h0
      go_wp2
      go_ret
      refine ⟨_, rfl, _, _, _, rfl, hg, ?_, HBB.out⟩
      rw [← HE.out, riseE_end (.inl rfl)]
      exact HRR.out
    · have hp : (j - 1) / 2 < n + 1 := by omega
      have hpj : (j - 1) / 2 ≠ j := by omega
      have c2 := row_elt HRR.out hp
      rw [elt_other hpj] at c2
      have f1 := HRR.out.free j
      have f2 := HRR.out.free ((j - 1) / 2)
      have cj := row_elt HRR.out hj
      rw [elt_same (by omega)] at cj
      have d0 : decide (0 < (j : Int)) = true := decide_eq_true (by omega)
      have s1 : (j : Int) - 1 = ((j - 1 : Nat) : Int) := by omega
      have s2 : ((j - 1 : Nat) : Int) / 2 = (((j - 1) / 2 : Nat) : Int) := by omega
      have s3 : Int.tdiv ((j - 1 : Nat) : Int) 2 = (((j - 1) / 2 : Nat) : Int) := by rw [Int.tdiv_eq_ediv_of_nonneg (by omega)]; exact s2
      by_cases hle : elt Y ((j - 1) / 2) ≤ k
      · have d1 : decide (k < elt Y ((j - 1) / 2)) = false := decide_eq_false (by omega)
        have HE2 := Lib.hid (riseE_end (l := Y) (i := j) (k := k) (.inr hle))
        generalize (j - 1) / 2 = p at *
        go_wp2
        go_ret
        refine ⟨_, rfl, _, _, _, rfl, hg, ?_, HBB.out⟩
        rw [← HE.out, HE2.out]
        exact HRR.out
      · have d1 : decide (k < elt Y ((j - 1) / 2)) = true := decide_eq_true (by omega)
        have HE2 := Lib.hid (riseE_go (l := Y) (i := j) (k := k) h0 hle)
        generalize (j - 1) / 2 = p at *
        go_wp2
        go_roundw
        case rel =>
          refine ⟨p, Y.set j (elt Y p), rfl, hp, ?_, ?_, (HBB.out.setCell hg _).setCell hg _⟩
          · rw [← HE.out, HE2.out]
          · have := (HRR.out.put (i := j) (elt Y p)).put (i := p) k
            rw [List.set_set] at this
            exact this
        case measure => simp [intOf]; omega
theorem Row.swap {w : World} {g n c j q : Nat} {Y : List Int} {y : Int} (h : Row w g n c (Y.set j y)) (d : Nat) (x : Int) :
    Row (((w.drewN d).setCell ⟨g, j, none⟩ (.int .u64 x)).setCell ⟨g, q, none⟩ (.int .u64 y)) g n c ((Y.set j x).set q y) := by
  have := ((h.drewN d).put (i := j) x).put (i := q) y
  rw [List.set_set] at this
  exact this
set_option maxRecDepth 100000 in
theorem rpop14_none {w : World} {v : Value} (h : WV w v []) : Calls Try.prog 15 #[v] w fun e w' => e = .returned (.tuple #[.int .u64 0, .slice none 0 0, .bool false]) ∧ w' = w := by
  obtain ⟨a, n, c, rfl, hi, hc, ha⟩ := h
  have hn : n = 0 := hi.1.symm
  subst hn
  clear hi hc ha
  go_enter Try.func15, Try.ntmps15
  go_wp2
  go_ret3
  exact ⟨rfl, rfl⟩
theorem WV.init {w : World} {x : Addr} {m c : Nat} {X : List Int} (h : InW w (some x) (m + 1) X) (hc : m + 1 ≤ c) : WV w (.slice (some x) m c) X.dropLast := by
  refine ⟨_, _, _, rfl, ⟨by rw [List.length_dropLast, h.1]; omega, by have := h.2.1; omega, fun i hi => ?_⟩, by omega, fun e => by cases e⟩
  obtain ⟨y, e, hb, hcell⟩ := h.2.2 i (by omega)
  refine ⟨y, e, hb, ?_⟩
  rw [hcell, List.getD_eq_getElem?_getD, List.getD_eq_getElem?_getD, List.getElem?_dropLast, if_pos (by have := h.1; omega)]
set_option maxRecDepth 100000 in
set_option maxHeartbeats 4000000 in
theorem rpop14_any {w : World} {v : Value} {X : List Int} (h : WV w v X) (h0 : 0 < X.length) (hl : X.length ≤ 900) :
    Calls Try.prog 15 #[v] w fun e w' => ∃ v', e = .returned (.tuple #[.int .u64 (elt X 0), v', .bool true]) ∧ NewW w w' v' (popE X) := by
  obtain ⟨a, n, c, rfl, hi, hc, ha⟩ := h
  have hn := hi.1
  rw [hn] at h0 hl
  obtain ⟨x, rfl, hx, _⟩ := hi.2.2 0 h0
  obtain ⟨m, hm⟩ : ∃ m, n = m + 1 := ⟨n - 1, by omega⟩
  subst hm
  have hlast : w.cell? (x.add m) = some (.int .u64 (elt X m)) := hi.cell (i := m) (by omega)
  have hfirst : w.cell? (x.add 0) = some (.int .u64 (elt X 0)) := hi.cell (i := 0) (by omega)
  have hxm : (x.add m).block = x.block := block_add x m
  rw [show x.add 0 = x by unfold Addr.add; simp] at hfirst
  have HV := Lib.hid ((WV.init hi hc).below (below_one w (.cells #[] 23)))
  have HO := Lib.hid (OwnW.made0 w)
  have HB := Lib.hid (below_one w (.cells #[] 23))
  have HC := Lib.hid (And.intro hlast (And.intro hfirst hx))
  have w1m : ((m + 1 : Nat) : Int) - 1 = (m : Int) := by omega
  have hc1 : ¬ c = 0 := by omega
  have hmc : m ≤ c := by omega
  have hdl : X.dropLast.length = m := by rw [List.length_dropLast, hn]; omega
  clear hi ha hlast hfirst hc hx
  go_enter Try.func15, Try.ntmps15
  go_wp2_with (at_builtin; refine Hid.out ?_)
  refine Lib.hid ?_
  refine wpList_appUN rfl _ _ rfl rfl HO.out rfl HV.out (by simp; omega) (by simp) ?_
  intro v1 w1 ho1 hg1 hnn
  rw [List.nil_append] at ho1
  have hb1 := below_appU HB.out HO.out (Nat.le_refl _) hg1
  have HB1 := Lib.hid hb1
  have c1 := HC.out.1
  have c2 := HC.out.2.1
  rw [← hb1.cell (by rw [hxm]; exact HC.out.2.2)] at c1
  rw [← hb1.cell HC.out.2.2] at c2
  by_cases hm0 : m = 0
  · have hX : X.dropLast = [] := List.eq_nil_of_length_eq_zero (by omega)
    rw [hX] at ho1
    subst hm0
    have hp0 : popE X = [] := by unfold popE; rw [if_pos hn]
    have HP := Lib.hid hp0
    obtain ⟨b1, b2, rfl, hb3, hb4⟩ : ∃ b1 b2, v1 = .slice (some ⟨b1, 0, none⟩) 0 b2 ∧ w.heap.size ≤ b1 ∧ Row w1 b1 0 b2 [] := by
      obtain ⟨b1, b2, e, hb3, hr⟩ := Row.of_own (X := []) ho1 (hnn (fun e => by cases e))
      exact ⟨b1, b2, e, hb3, hr⟩
    clear hb1 ho1 hX hp0
    go_wp2
    go_ret3
    refine ⟨_, rfl, _, _, _, rfl, hb3, ?_, HB1.out⟩
    rw [HP.out]
    exact hb4
  · obtain ⟨g, c3, rfl, hg, hr⟩ := ho1.row (by omega)
    rw [hdl] at hr
    rw [hdl]
    have HG := Lib.hid hg
    have HR := Lib.hid hr
    have e1 : popE X = sinkE X.dropLast 0 (elt X m) := by
      unfold popE
      rw [if_neg (by omega), hn]
      rfl
    have E1 := Lib.hid e1
    have d0 : decide ((m : Int) = 0) = false := decide_eq_false (by omega)
    have cc0 := row_elt hr (i := 0) (by omega)
    have f0 := hr.free 0
    have hlp : 0 < m := by omega
    have hxg : x.block < w.heap.size := HC.out.2.2
    have hr0 := hr
    clear ho1 hg1 hb1 HO HB HV hr hg e1 hdl
    have HC0 := Lib.hid (And.intro HC.out.2.1 HC.out.2.2)
    have hY0 := Lib.hid hr0
    clear hr0
    go_wp2_with fail
    go_loopw [8] (fun i wr => ∃ (j : Nat) (Y : List Int), i = .int .i64 j ∧ j < m ∧ sinkE Y j (elt X m) = popE X ∧ Row wr g m c3 (Y.set j (elt X m)) ∧ Below w.heap.size w wr) (fun i _ => m - (intOf i).toNat)
    case atStart => exact ⟨0, X.dropLast, rfl, hlp, E1.out.symm, hY0.out.put _, HB1.out.setCell HG.out _⟩
    case round =>
      obtain ⟨j, Y, rfl, hj, he, hr, hb⟩ := hrel
      have hg := HG.out
      have HE := Lib.hid he
      have HRR := Lib.hid hr
      have HBB := Lib.hid hb
      have hYl : Y.length = m := by have := hr.len; simpa using this
      have cx : wr.cell? x = some (.int .u64 (elt X 0)) := (hb.cell HC0.out.2).trans HC0.out.1
      clear he hr hb HG E1 HB1 HR hY0 c1 c2 cc0 f0 HC HC0
      generalize elt X m = y at *
      have f1 := HRR.out.free j
      have cj := row_elt HRR.out hj
      rw [elt_same (by omega)] at cj
      have hE0 := fun h => sinkE_end (l := Y) (i := j) (y := y) (.inl h)
      have hE2 := fun h => sinkE_end (l := Y) (i := j) (y := y) (.inr h)
      have hE3 := fun h1 h => sinkE_go (l := Y) (i := j) (y := y) h1 h
      have hle : lesserE Y j = if 2 * j + 2 < m ∧ elt Y (2 * j + 2) < elt Y (2 * j + 1) then 2 * j + 2 else 2 * j + 1 := by unfold lesserE; rw [hYl]
      obtain ⟨c, hc⟩ : ∃ c, 2 * j + 1 = c := ⟨_, rfl⟩
      have hcI : 2 * (j : Int) + 1 = (c : Int) := by omega
      have hc' : 2 * j + 2 = c + 1 := by omega
      rw [hc', hc] at hle
      rw [hYl, hc] at hE0
      rw [hYl, hc] at hE3
      generalize hq : lesserE Y j = q at *
      have HE0 := Lib.hid hE0
      have HE2 := Lib.hid hE2
      have HE3 := Lib.hid hE3
      have hjc : j < c := by omega
      clear hE2 hE3 hE0 hc hc'
      by_cases hend : m ≤ c
      · have de : decide ((c : Int) < (m : Int)) = false := decide_eq_false (by omega)
        go_wp2
        go_ret3
        refine ⟨_, rfl, _, _, _, rfl, hg, ?_, HBB.out⟩
        rw [← HE.out, HE0.out hend]
        exact HRR.out
      · have de : decide ((c : Int) < (m : Int)) = true := decide_eq_true (by omega)
        have hcm : c < m := by omega
        have k1 := row_elt HRR.out hcm
        rw [elt_other (by omega)] at k1
        have f2 := HRR.out.free c
        by_cases h2 : c + 1 < m
        · have k2 := row_elt HRR.out h2
          rw [elt_other (by omega)] at k2
          have f3 := HRR.out.free (c + 1)
          have d2 : decide ((c : Int) + 1 < (m : Int)) = true := decide_eq_true (by omega)
          by_cases h3 : elt Y (c + 1) < elt Y c
          · have hqc : q = c + 1 := by rw [hle, if_pos ⟨h2, h3⟩]
            have hqI : (c : Int) + 1 = (q : Int) := by omega
            rw [← hqc] at k2 h3 h2 f3
            rw [hqI] at d2
            have d3 : decide (elt Y q < elt Y c) = true := decide_eq_true h3
            have hq1 : q < m := h2
            have hjq : j < q := by omega
            have HQ := Lib.hid hqc
            clear hqc
            clear hle
            go_wp2_with fail
            go_quiet (fail)
            by_cases hy : y ≤ elt Y (q)
            · have hy' : decide (elt Y (q) ≥ y) = true := decide_eq_true hy
              go_wp2
              go_ret3
              refine ⟨_, rfl, _, _, _, rfl, hg, ?_, HBB.out.trans (below_drewN _ _ |>.mono HBB.out.size)⟩
              rw [← HE.out, HE2.out hy]
              exact HRR.out.drewN _
            · have hy' : decide (elt Y (q) ≥ y) = false := decide_eq_false hy
              go_wp2
              go_roundw
              case rel =>
                refine ⟨q, rfl, hq1, Y.set j (elt Y (q)), ?_, ?_, ((HBB.out.trans (below_drewN _ _ |>.mono HBB.out.size)).setCell hg _).setCell hg _⟩
                · rw [← HE.out, HE3.out hcm (by omega)]
                · exact HRR.out.swap _ _
              case measure => simp [intOf]; omega
          · have hqc : q = c := by rw [hle, if_neg (fun h => h3 h.2)]
            have d3 : decide (elt Y (c + 1) < elt Y c) = false := decide_eq_false h3
            subst hqc
            have hq1 : q < m := hcm
            clear hle
            go_wp2_with fail
            go_quiet (fail)
            by_cases hy : y ≤ elt Y (q)
            · have hy' : decide (elt Y (q) ≥ y) = true := decide_eq_true hy
              go_wp2
              go_ret3
              refine ⟨_, rfl, _, _, _, rfl, hg, ?_, HBB.out.trans (below_drewN _ _ |>.mono HBB.out.size)⟩
              rw [← HE.out, HE2.out hy]
              exact HRR.out.drewN _
            · have hy' : decide (elt Y (q) ≥ y) = false := decide_eq_false hy
              go_wp2
              go_roundw
              case rel =>
                refine ⟨q, rfl, hq1, Y.set j (elt Y (q)), ?_, ?_, ((HBB.out.trans (below_drewN _ _ |>.mono HBB.out.size)).setCell hg _).setCell hg _⟩
                · rw [← HE.out, HE3.out hcm (by omega)]
                · exact HRR.out.swap _ _
              case measure => simp [intOf]; omega
        · have hqc : q = c := by rw [hle, if_neg (fun h => h2 h.1)]
          have d2 : decide ((c : Int) + 1 < (m : Int)) = false := decide_eq_false (by omega)
          subst hqc
          have hq1 : q < m := hcm
          clear hle
          go_wp2_with fail
          go_quiet (fail)
          by_cases hy : y ≤ elt Y (q)
          · have hy' : decide (elt Y (q) ≥ y) = true := decide_eq_true hy
            go_wp2
            go_ret3
            refine ⟨_, rfl, _, _, _, rfl, hg, ?_, HBB.out.trans (below_drewN _ _ |>.mono HBB.out.size)⟩
            rw [← HE.out, HE2.out hy]
            exact HRR.out.drewN _
          · have hy' : decide (elt Y (q) ≥ y) = false := decide_eq_false hy
            go_wp2
            go_roundw
            case rel =>
              refine ⟨q, rfl, hq1, Y.set j (elt Y (q)), ?_, ?_, ((HBB.out.trans (below_drewN _ _ |>.mono HBB.out.size)).setCell hg _).setCell hg _⟩
              · rw [← HE.out, HE3.out hcm (by omega)]
              · exact HRR.out.swap _ _
            case measure => simp [intOf]; omega
end Go.Proofs.Ytjejnkkefkompaa
