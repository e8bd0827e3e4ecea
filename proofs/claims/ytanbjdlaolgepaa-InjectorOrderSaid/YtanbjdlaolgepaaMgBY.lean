/-
  Package edf: sink, Push, Pop, Valid.
  The reference's Push and Pop of layer 14, few, Same of slices that read as words.
  Stage 14: few, Same of slices that read as words, awake.
-/
import Derived.Test.YtanbjdlaolgepaaMgBX
import Derived.OwnWalk
import Derived.Laws.AppendOwnNone
namespace Go.Proofs.Ytanbjdlaolgepaa
open Go Go.RowKit
set_option linter.unusedSimpArgs false
set_option linter.unusedVariables false

theorem lesser_one {Y : List Int} {j : Nat} (h : 2 * j + 2 < Y.length ∧ elt Y (2 * j + 2) < elt Y (2 * j + 1)) : lesserE Y j = 2 * j + 2 := by unfold lesserE; rw [if_pos h]
theorem lesser_two {Y : List Int} {j : Nat} (h : ¬ (2 * j + 2 < Y.length ∧ elt Y (2 * j + 2) < elt Y (2 * j + 1))) : lesserE Y j = 2 * j + 1 := by unfold lesserE; rw [if_neg h]

theorem Row.drewN {w : World} {g n c : Nat} {X : List Int} (h : Row w g n c X) (d : Nat) : Row (w.drewN d) g n c X := h.of_same rfl
set_option maxRecDepth 100000 in
set_option maxHeartbeats 4000000 in
theorem sink_any {w : World} {g n cap : Nat} {X : List Int} (y : Int) (h : Row w g n cap X) (h0 : 0 < n) (hn : n ≤ 1000) :
    Calls Try.prog 27 #[.slice (some ⟨g, 0, none⟩) n cap, .int .u64 y] w fun e w' => e = .returned (.tuple #[]) ∧ Row w' g n cap (sinkE X 0 y) ∧ Fr [g] w w' := by
  have H := Lib.hid h
  clear h
  go_enter Try.func27, Try.ntmps27
  go_wp2_with fail
  go_step3
  go_wp2_with fail
  go_step3
  go_wp2_with fail
  go_loopw [4] (fun v wr => ∃ (j d : Nat) (Y : List Int), v = .int .i64 j ∧ j < n ∧ sinkE Y j y = sinkE X 0 y ∧ Row wr g n cap Y ∧ Fr [g] w wr) (fun v _ => n - (intOf v).toNat)
  case atStart => exact ⟨0, 0, X, rfl, h0, rfl, H.out, Fr.refl _ _⟩
  case round =>
    obtain ⟨j, d, Y, rfl, hj, he, hr, hf⟩ := hrel
    have HE := Lib.hid he
    have HR := Lib.hid hr
    have HF := Lib.hid hf
    have hYl : Y.length = n := hr.len
    clear he hr hf H
    have hc0 := firstChild_any (w := wr) j (by omega)
    by_cases hend : n ≤ 2 * j + 1
    · have c1 := row_elt HR.out hj
      have f1 := HR.out.free j
      go_wp2_with fail
      (with_reducible refine hc0.mono ?_)
      rintro e w1 ⟨rfl, rfl⟩
      go_wp2
      rw [Exit.noGoto_normal]
      go_end0
      refine ⟨rfl, ?_, HF.out.setCell (.inl (List.mem_singleton.2 rfl)) _⟩
      rw [← HE.out, sinkE_end (.inl (by omega))]
      exact HR.out.put y
    · have hl1 : 2 * j + 1 < n := by omega
      have c1 := row_elt HR.out hj
      have f1 := HR.out.free j
      have hL := lesserE_is Y j
      have hE2 := fun h => sinkE_end (l := Y) (i := j) (y := y) (.inr h)
      have hE3 := fun h => sinkE_go (l := Y) (i := j) (y := y) (by rw [hYl]; omega) h
      have hle : lesserE Y j = if 2 * j + 2 < n ∧ elt Y (2 * j + 2) < elt Y (2 * j + 1) then 2 * j + 2 else 2 * j + 1 := by unfold lesserE; rw [hYl]
      obtain ⟨c, hc⟩ : ∃ c, 2 * j + 1 = c := ⟨_, rfl⟩
      have hc' : 2 * j + 2 = c + 1 := by omega
      rw [hc'] at hle hL
      rw [hc] at hle hL hc0 hl1
      have c2 := row_elt HR.out hl1
      generalize hq : lesserE Y j = q at *
      have HL := Lib.hid hL
      have HE2 := Lib.hid hE2
      have HE3 := Lib.hid hE3
      have HC := Lib.hid (And.intro hc hc')
      have hjc : j < c := by omega
      clear hL hE2 hE3 hc hc' hend
      go_wp2_with fail
      (with_reducible refine hc0.mono ?_)
      rintro e w1 ⟨rfl, rfl⟩
      clear hc0
      by_cases h2 : c + 1 < n
      · have c3 := row_elt HR.out h2
        have d2 : decide ((c : Int) + 1 < (n : Int)) = true := decide_eq_true (by omega)
        by_cases h3 : elt Y (c + 1) < elt Y c
        · have hqc : q = c + 1 := by rw [hle, if_pos ⟨h2, h3⟩]
          have d3 : decide (elt Y (c + 1) < elt Y c) = true := decide_eq_true h3
          subst hqc
          have hq1 : c + 1 < n := h2
          clear hle
          go_wp2_with fail
          go_quiet (fail)
          by_cases hy : y ≤ elt Y (c + 1)
          · have hy' : decide (elt Y (c + 1) ≥ y) = true := decide_eq_true hy
            go_wp2
            rw [Exit.noGoto_normal]
            go_end0
            refine ⟨rfl, ?_, (HF.out.drewN _).setCell (.inl (List.mem_singleton.2 rfl)) _⟩
            rw [← HE.out, HE2.out hy]
            exact (HR.out.drewN _).put y
          · have hy' : decide (elt Y (c + 1) ≥ y) = false := decide_eq_false hy
            go_wp2
            go_roundw
            case rel =>
              refine ⟨c + 1, 0, Y.set j (elt Y (c + 1)), by go_num, hq1, ?_, (HR.out.drewN _).put _, (HF.out.drewN _).setCell (.inl (List.mem_singleton.2 rfl)) _⟩
              rw [← HE.out, HE3.out (by omega)]
            case measure => simp [intOf]; omega
        · have hqc : q = c := by rw [hle, if_neg (fun h => h3 h.2)]
          have d3 : decide (elt Y (c + 1) < elt Y c) = false := decide_eq_false h3
          subst hqc
          have hq1 : q < n := hl1
          clear hle
          go_wp2_with fail
          go_quiet (fail)
          by_cases hy : y ≤ elt Y (q)
          · have hy' : decide (elt Y (q) ≥ y) = true := decide_eq_true hy
            go_wp2
            rw [Exit.noGoto_normal]
            go_end0
            refine ⟨rfl, ?_, (HF.out.drewN _).setCell (.inl (List.mem_singleton.2 rfl)) _⟩
            rw [← HE.out, HE2.out hy]
            exact (HR.out.drewN _).put y
          · have hy' : decide (elt Y (q) ≥ y) = false := decide_eq_false hy
            go_wp2
            go_roundw
            case rel =>
              refine ⟨q, 0, Y.set j (elt Y (q)), by go_num, hq1, ?_, (HR.out.drewN _).put _, (HF.out.drewN _).setCell (.inl (List.mem_singleton.2 rfl)) _⟩
              rw [← HE.out, HE3.out (by omega)]
            case measure => simp [intOf]; omega
      · have hqc : q = c := by rw [hle, if_neg (fun h => h2 h.1)]
        have d2 : decide ((c : Int) + 1 < (n : Int)) = false := decide_eq_false (by omega)
        subst hqc
        have hq1 : q < n := hl1
        clear hle
        go_wp2_with fail
        go_quiet (fail)
        by_cases hy : y ≤ elt Y (q)
        · have hy' : decide (elt Y (q) ≥ y) = true := decide_eq_true hy
          go_wp2
          rw [Exit.noGoto_normal]
          go_end0
          refine ⟨rfl, ?_, (HF.out.drewN _).setCell (.inl (List.mem_singleton.2 rfl)) _⟩
          rw [← HE.out, HE2.out hy]
          exact (HR.out.drewN _).put y
        · have hy' : decide (elt Y (q) ≥ y) = false := decide_eq_false hy
          go_wp2
          go_roundw
          case rel =>
            refine ⟨q, 0, Y.set j (elt Y (q)), by go_num, hq1, ?_, (HR.out.drewN _).put _, (HF.out.drewN _).setCell (.inl (List.mem_singleton.2 rfl)) _⟩
            rw [← HE.out, HE3.out (by omega)]
          case measure => simp [intOf]; omega

/-- The list behind a push. -/
theorem pushE_take (X : List Int) : X.take (X.length + 1) ++ List.replicate (X.length + 1 - X.length) 0 = X ++ [0] := by
  rw [List.take_of_length_le (by omega), show X.length + 1 - X.length = 1 by omega]
  rfl
set_option maxRecDepth 100000 in
set_option maxHeartbeats 2000000 in
theorem epush_any {w : World} {v : Value} {X : List Int} (k : Int) (h : WV w v X) (hl : X.length ≤ 900) :
    Calls Try.prog 11 #[v, .int .u64 k] w fun e w' => ∃ v', e = .returned v' ∧ NewW w w' v' (pushE X k) := by
  have hv := h
  obtain ⟨a, n, c, rfl, hi, hc, ha⟩ := h
  have hn := hi.1
  have HI := Lib.hid hv
  clear hi hc ha hv
  go_enter Try.func11, Try.ntmps11
  go_wp2_with fail
  (with_reducible refine (copied_any (n + 1) HI.out (by omega) (by omega)).mono ?_)
  rintro e w1 ⟨rfl, hr, hb⟩
  have HR := Lib.hid hr
  have HB := Lib.hid hb
  clear hr hb
  go_wp2_with fail
  (with_reducible refine (rise_any k HR.out (by omega) (by omega)).mono ?_)
  rintro e w2 ⟨rfl, hr, hf⟩
  go_wp2
  go_ret
  refine ⟨_, rfl, _, _, _, rfl, Nat.le_refl _, ?_, HB.out.trans (hf.below HB.out.size (fun x hx => ?_))⟩
  · rw [← hn, pushE_take] at hr
    rw [← hn]
    exact hr
  · rw [List.mem_singleton.1 hx]
    exact Nat.le_refl _
theorem popE_take (X : List Int) : X.take (X.length - 1) ++ List.replicate (X.length - 1 - X.length) 0 = X.dropLast := by
  rw [List.dropLast_eq_take, show X.length - 1 - X.length = 0 by omega]
  simp
set_option maxRecDepth 100000 in
theorem epop_none {w : World} {v : Value} (h : WV w v []) : Calls Try.prog 13 #[v] w fun e w' => e = .returned (.tuple #[.int .u64 0, .slice none 0 0, .bool false]) ∧ w' = w := by
  obtain ⟨a, n, c, rfl, hi, hc, ha⟩ := h
  have hn : n = 0 := hi.1.symm
  subst hn
  clear hi hc ha
  go_enter Try.func13, Try.ntmps13
  go_wp2
  go_ret3
  exact ⟨rfl, rfl⟩
set_option maxRecDepth 100000 in
set_option maxHeartbeats 2000000 in
theorem epop_any {w : World} {v : Value} {X : List Int} (h : WV w v X) (h0 : 0 < X.length) (hl : X.length ≤ 900) :
    Calls Try.prog 13 #[v] w fun e w' => ∃ v', e = .returned (.tuple #[.int .u64 (elt X 0), v', .bool true]) ∧ NewW w w' v' (popE X) := by
  have hv := h
  obtain ⟨a, n, c, rfl, hi, hc, ha⟩ := h
  have hn := hi.1
  have HI := Lib.hid hv
  rw [hn] at h0
  obtain ⟨x, rfl, hx, _⟩ := hi.2.2 0 h0
  have HJ := Lib.hid hi
  have HX := Lib.hid hx
  obtain ⟨m, hm⟩ : ∃ m, n = m + 1 := ⟨n - 1, by omega⟩
  subst hm
  have hlast := hi.cell (i := m) (by omega)
  have hfirst := hi.cell (i := 0) (by omega)
  have hxm : (x.add m).block = x.block := block_add x m
  clear hi hc ha hv
  rw [show x.add 0 = x by unfold Addr.add; simp] at hfirst
  have HC := Lib.hid (And.intro hlast hfirst)
  clear hlast hfirst hx
  have w1m : ((m + 1 : Nat) : Int) - 1 = (m : Int) := by omega
  go_enter Try.func13, Try.ntmps13
  go_wp2_with fail
  (with_reducible refine (copied_any m HI.out (by omega) (by omega)).mono ?_)
  rintro e w1 ⟨rfl, hr, hb⟩
  have HR := Lib.hid hr
  have HB := Lib.hid hb
  have c1 := HC.out.1
  have c2 := HC.out.2
  rw [← hb.cell (by rw [hxm]; exact HX.out)] at c1
  rw [← hb.cell HX.out] at c2
  clear hr hb
  have c3 : X.getD m 0 = elt X m := rfl
  have c4 : X.getD 0 0 = elt X 0 := rfl
  rw [c3] at c1
  rw [c4] at c2
  clear c3 c4
  by_cases hm0 : m = 0
  · subst hm0
    go_wp2
    go_ret3
    refine ⟨_, rfl, _, _, _, rfl, Nat.le_refl _, ?_, HB.out⟩
    have : popE X = [] := by unfold popE; rw [if_pos hn]
    rw [this]
    have h2 := HR.out
    rw [List.take_zero, List.nil_append, show 0 - X.length = 0 by omega] at h2
    exact h2
  · have d0 : decide (0 < (m : Int)) = true := decide_eq_true (by omega)
    go_wp2_with fail
    (with_reducible refine (sink_any _ HR.out (by omega) (by omega)).mono ?_)
    rintro e w2 ⟨rfl, hr, hf⟩
    have c5 : w2.cell? x = some (.int .u64 (elt X 0)) := by
      rw [← c2]
      exact World.cell?_of_block (w := w1) (hf.block x.block (Nat.lt_of_lt_of_le HX.out HB.out.size) (by
        have := HX.out
        simp
        omega))
    go_wp2
    go_ret3
    refine ⟨_, rfl, _, _, _, rfl, Nat.le_refl _, ?_, HB.out.trans (hf.below HB.out.size (fun x hx => ?_))⟩
    · have h1 : popE X = sinkE X.dropLast 0 (elt X m) := by
        unfold popE
        rw [if_neg (by omega), hn]
        rfl
      have e1 : X.take m ++ List.replicate (m - X.length) 0 = X.dropLast := by
        rw [← popE_take, hn]
        have : m - (m + 1) = m + 1 - 1 - (m + 1) := by omega
        rw [this]
        rfl
      rw [h1, ← e1]
      exact hr
    · rw [List.mem_singleton.1 hx]
      exact Nat.le_refl _
end Go.Proofs.Ytanbjdlaolgepaa

namespace Go.Proofs.Ytanbjdlaolgepaa
open Go Go.RowKit
set_option linter.unusedSimpArgs false
set_option linter.unusedVariables false

/-- An append of what reads as words. -/
theorem wpList_appUN {w : World} {ops : Array Oper} {rest : List Oper} {o : Oper} {a : Act} {Q : Exit → Act → World → Prop} (hgd : o.guard = none) (s x : Operand)
    (ho : o.op = .call { callee := .builtin .append, args := #[s, x], argTypes := #[41, 41] })
    {base : Nat} {v vx : Value} {l ns : List Int} (hs : a.eval s = v) (hown : OwnW w base v l) (hx : a.eval x = vx) (hin : WV w vx ns) (hn : l.length + ns.length ≤ 1000000) (hb : base ≤ w.heap.size)
    (h : ∀ v' w', OwnW w' base v' (l ++ ns) → w.grownBy w' v.ownBlock → (v ≠ .slice none 0 0 → v' ≠ .slice none 0 0) → wpList Try.prog ops Q rest (a.put o.dst v') w') :
    wpList Try.prog ops Q (o :: rest) a w := by
  obtain ⟨ax, m, c, rfl, hi, hc, ha⟩ := hin
  obtain ⟨i0, hi0, hz0, hz1, hz2⟩ := info_partsG info_w64
  cases ax with
  | some ad =>
    rw [hi.1] at hn
    refine wpList_append_own_at w hgd s x 41 ho base 48 i0 _ 1 8 Try.underlying41 hi0 hz0 hz1 hz2 rfl (by omega) v l.length (l.map (Value.int .u64)) hs hown ad m c (ns.map (Value.int .u64)) hx (by simpa using hi.1) (fun j u hj => ?_) (words_one ns) (by unfold maxLen; omega) (by omega) hb ?_
    · rw [List.getElem?_map] at hj
      have hj2 : j < m := by
        rw [← hi.1]
        cases hjj : ns[j]? with
        | none => rw [hjj] at hj; cases hj
        | some y => exact (List.getElem?_eq_some_iff.1 hjj).1
      rw [hi.cell hj2, ← hj, List.getD_eq_getElem?_getD, List.getElem?_eq_getElem (by rw [hi.1]; exact hj2)]
      rfl
    · intro v' w' h1 h2 h3 _
      refine h v' w' ?_ h2 (fun hv e => hv (h3.1 e).1)
      unfold OwnW
      rw [List.map_append, List.length_append, hi.1]
      exact h1
  | none =>
    have hl : ns = [] := by
      cases ns with
      | nil => rfl
      | cons y l =>
        obtain ⟨_, e, _⟩ := hi.2.2 0 (by have := hi.1; simp at this; omega)
        cases e
    subst hl
    have hm : m = 0 := hi.1.symm
    subst hm
    obtain rfl := ha rfl
    refine wpList_append_own_none hgd s x 41 ho base 48 i0 1 Try.underlying41 hi0 v l.length _ hs hown hx ?_
    have := h v w (by simpa using hown) ⟨rfl, rfl, rfl, Nat.le_refl _, fun _ _ _ => rfl⟩ (fun hv => hv)
    exact this
theorem OwnW.made0 (w : World) : OwnW (w.alloc (.cells #[] 48)) w.heap.size (.slice (some ⟨w.heap.size, 0, none⟩) 0 0) [] := OwnW.lit w w.heap.size [] (Nat.le_refl _) (by simp)
theorem OwnW.row {w : World} {B : Nat} {v : Value} {X : List Int} (h : OwnW w B v X) (h0 : 0 < X.length) : ∃ g c, v = .slice (some ⟨g, 0, none⟩) X.length c ∧ B ≤ g ∧ Row w g X.length c X := by
  refine Row.of_own h (fun e => ?_)
  subst e
  rcases h.2 with ⟨_, h2⟩ | ⟨g, cap, cur, e, _⟩
  · omega
  · cases e

theorem Row.swap {w : World} {g n c j q : Nat} {Y : List Int} {y : Int} (h : Row w g n c (Y.set j y)) (d : Nat) (x : Int) :
    Row (((w.drewN d).setCell ⟨g, j, none⟩ (.int .u64 x)).setCell ⟨g, q, none⟩ (.int .u64 y)) g n c ((Y.set j x).set q y) := by
  have := ((h.drewN d).put (i := j) x).put (i := q) y
  rw [List.set_set] at this
  exact this
theorem WV.init {w : World} {x : Addr} {m c : Nat} {X : List Int} (h : InW w (some x) (m + 1) X) (hc : m + 1 ≤ c) : WV w (.slice (some x) m c) X.dropLast := by
  refine ⟨_, _, _, rfl, ⟨by rw [List.length_dropLast, h.1]; omega, by have := h.2.1; omega, fun i hi => ?_⟩, by omega, fun e => by cases e⟩
  obtain ⟨y, e, hb, hcell⟩ := h.2.2 i (by omega)
  refine ⟨y, e, hb, ?_⟩
  rw [hcell, List.getD_eq_getElem?_getD, List.getD_eq_getElem?_getD, List.getElem?_dropLast, if_pos (by have := h.1; omega)]
end Go.Proofs.Ytanbjdlaolgepaa

namespace Go.Proofs.Ytanbjdlaolgepaa
open Go Go.RowKit
set_option linter.unusedSimpArgs false
set_option linter.unusedVariables false

set_option maxRecDepth 100000 in
set_option maxHeartbeats 1000000 in
theorem wsamev_any {w : World} {v v' : Value} {X : List Int} (h : WV w v X) (h' : WV w v' X) :
    Calls Try.prog 15 #[v, v'] w fun e w' => e = .returned (.bool true) ∧ Below w.heap.size w w' := by
  obtain ⟨a, n, c, rfl, hi, _, _⟩ := h
  obtain ⟨a', n', c', rfl, hi', _, _⟩ := h'
  obtain rfl : n = n' := hi.1.symm.trans hi'.1
  have hmax : n ≤ 9223372036854775807 := by have := hi.2.1; unfold maxLen at this; omega
  have H := Lib.hid hi
  have H' := Lib.hid hi'
  clear hi hi'
  go_enter Try.func15, Try.ntmps15
  go_wp2_with fail
  go_loopw [5] (fun i wr => ∃ (j d : Nat), j ≤ n ∧ i = .int .i64 j ∧ wr = w.drewN d) (fun i _ => n - (intOf i).toNat)
  case atStart => exact ⟨0, 0, by omega, rfl, rfl⟩
  case round =>
    obtain ⟨j, d, hj, rfl, rfl⟩ := hrel
    by_cases hlt : j < n
    · obtain ⟨x, rfl, _, hx⟩ := H.out.2.2 j hlt
      obtain ⟨x', rfl, _, hy⟩ := H'.out.2.2 j hlt
      have hx2 : w.cell? (x.add j) = some (.int .u64 (elt X j)) := hx
      have hy2 : w.cell? (x'.add j) = some (.int .u64 (elt X j)) := hy
      clear hx hy
      generalize elt X j = u at hx2 hy2
      go_wp2_with fail
      go_quiet (fail)
      go_wp2_with fail
      go_roundw
      case rel => exact ⟨j + 1, _, by omega, by go_num, rfl⟩
      case measure => simp [intOf]; omega
    · obtain rfl : j = n := by omega
      go_wp2
      go_ret
      exact ⟨rfl, below_drewN _ _⟩

/-- Keys reduced. -/
def fewE (X : List Int) : List Int := X.map (· % 8)
theorem fewE_len (X : List Int) : (fewE X).length = X.length := List.length_map _
theorem fewE_take {X : List Int} {j : Nat} (hj : j < X.length) : fewE (X.take j) ++ [elt X j % 8] = fewE (X.take (j + 1)) := by
  unfold fewE elt
  rw [List.take_succ_eq_append_getElem hj, List.map_append, List.getD_eq_getElem?_getD, List.getElem?_eq_getElem hj]
  rfl
theorem aw14 : pushE [] 5 = [5] ∧ pushE [5] 3 = [3, 5] ∧ pushE [3, 5] 4 = [3, 5, 4] ∧ pushE [3, 5, 4] 1 = [1, 3, 4, 5] ∧ popE [1, 3, 4, 5] = [3, 5, 4] ∧ elt [1, 3, 4, 5] 0 = 1 := by decide +kernel
/-- The keys of the example. -/
def awK (j : Nat) : List Int := (([5, 3, 4, 1] : List Int).take j).foldl pushE []
theorem awK_next {j : Nat} (hj : j < 4) : pushE (awK j) (elt [5, 3, 4, 1] j) = awK (j + 1) ∧ (awK j).length ≤ 4 := by
  obtain ⟨h1, h2, h3, h4, _⟩ := aw14
  match j, hj with
  | 0, _ => exact ⟨rfl, by decide⟩
  | 1, _ => exact ⟨rfl, by show (pushE [] 5).length ≤ 4; rw [h1]; decide⟩
  | 2, _ => exact ⟨rfl, by show (pushE (pushE [] 5) 3).length ≤ 4; rw [h1, h2]; decide⟩
  | 3, _ => exact ⟨rfl, by show (pushE (pushE (pushE [] 5) 3) 4).length ≤ 4; rw [h1, h2, h3]; decide⟩
theorem awK_all : awK 4 = [1, 3, 4, 5] := by
  obtain ⟨h1, h2, h3, h4, _⟩ := aw14
  show pushE (pushE (pushE (pushE [] 5) 3) 4) 1 = _
  rw [h1, h2, h3, h4]
end Go.Proofs.Ytanbjdlaolgepaa
