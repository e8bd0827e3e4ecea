/-
  Stage 11: the list of the search's state: pushed, popped, stolen.
-/
import Derived.Test.YtjehiekmlbeaeaaGreatMgAN
import Derived.Great.BuildSlice
import Derived.Great.Ranges
import Derived.Deep.Cut
import Derived.Deep.CutRange
import Derived.OwnWalk
import Derived.Laws.CopyOwn
import Derived.StillTailTactics
namespace Go.Proofs.YtjehiekmlbeaeaaGreat
open Go Go.RowKit
set_option linter.unusedSimpArgs false
set_option linter.unusedVariables false

/-- The cells of a list of at most twelve values. -/
def lsL (l : List Int) : List Int := (l.length : Int) :: (l ++ List.replicate (12 - l.length) 0)
def lsA (l : List Int) : Array Value := ((lsL l).map (Value.int .i64)).toArray
theorem lsL_len {l : List Int} (h : l.length ≤ 12) : (lsL l).length = 13 := by
  unfold lsL
  simp
  omega
theorem lsA_size {l : List Int} (h : l.length ≤ 12) : (lsA l).size = 13 := by
  unfold lsA
  simpa using lsL_len h
theorem lsA_0 (l : List Int) : (lsA l)[0]? = some (.int .i64 l.length) := by
  unfold lsA lsL
  simp
theorem lsA_at {l : List Int} (h : l.length ≤ 12) {i : Nat} (hi : i < 12) : (lsA l)[1 + i]? = some (.int .i64 (l.getD i 0)) := by
  unfold lsA lsL
  rw [List.getElem?_toArray, List.getElem?_map, Nat.add_comm, List.getElem?_cons_succ, List.getD_eq_getElem?_getD]
  by_cases hl : i < l.length
  · rw [List.getElem?_append_left hl, List.getElem?_eq_getElem hl]
    rfl
  · rw [List.getElem?_append_right (by omega), List.getElem?_replicate, if_pos (by omega), List.getElem?_eq_none (by omega)]
    rfl
/-- Arrays of thirteen ints are told by what they hold. -/
theorem lsA_eq {l : List Int} (h : l.length ≤ 12) {cs : Array Value} (hs : cs.size = 13) (h0 : cs[0]? = some (.int .i64 l.length)) (hi : ∀ i, i < 12 → cs[1 + i]? = some (.int .i64 (l.getD i 0))) : cs = lsA l := by
  apply Array.ext_getElem?
  intro i
  rcases Nat.eq_zero_or_pos i with rfl | hp
  · rw [h0, lsA_0]
  · by_cases hl : i < 13
    · have := hi (i - 1) (by omega)
      rw [show 1 + (i - 1) = i by omega] at this
      have h2 := lsA_at h (i := i - 1) (by omega)
      rw [show 1 + (i - 1) = i by omega] at h2
      rw [this, h2]
    · rw [Array.getElem?_eq_none (by omega), Array.getElem?_eq_none (by rw [lsA_size h]; omega)]

theorem info_list (n : Nat) (h : n = 13) : (Tryz.prog.info? 163).map (fun i => i.size) = some n := by
  subst h
  kernel_rfl
/-- What is stored at places of an array that is one of thirteen. -/
theorem lsA_push {l : List Int} (h : l.length < 12) (v : Int) : ((lsA l).setIfInBounds (1 + l.length) (.int .i64 v)).setIfInBounds 0 (.int .i64 ((l.length : Int) + 1)) = lsA (l ++ [v]) := by
  have hs := lsA_size (l := l) (by omega)
  refine lsA_eq (by simp; omega) (by simp [hs]) ?_ (fun i hi => ?_)
  · rw [Array.getElem?_setIfInBounds_self_of_lt (by simp; omega)]
    simp
  · rw [Array.getElem?_setIfInBounds_ne (by omega)]
    by_cases e : i = l.length
    · subst e
      rw [Array.getElem?_setIfInBounds_self_of_lt (by omega), List.getD_eq_getElem?_getD, List.getElem?_append_right (Nat.le_refl _)]
      simp
    · rw [Array.getElem?_setIfInBounds_ne (by omega), lsA_at (by omega) hi, List.getD_eq_getElem?_getD, List.getD_eq_getElem?_getD]
      by_cases hl : i < l.length
      · rw [List.getElem?_append_left hl]
      · rw [List.getElem?_append_right (by omega), List.getElem?_eq_none (by omega), List.getElem?_eq_none (by simp; omega)]
theorem lsA_pop {l : List Int} (h : l.length ≤ 12) (hn : l ≠ []) : ((lsA l).setIfInBounds 0 (.int .i64 ((l.length : Int) - 1))).setIfInBounds (1 + (l.length - 1)) (.int .i64 0) = lsA l.dropLast := by
  have hs := lsA_size (l := l) (by omega)
  have hp : 0 < l.length := List.length_pos_iff.2 hn
  refine lsA_eq (by simp; omega) (by simp [hs]) ?_ (fun i hi => ?_)
  · rw [Array.getElem?_setIfInBounds_ne (by omega), Array.getElem?_setIfInBounds_self_of_lt (by omega), List.length_dropLast, show ((l.length - 1 : Nat) : Int) = (l.length : Int) - 1 by omega]
  · by_cases e : i = l.length - 1
    · subst e
      rw [Array.getElem?_setIfInBounds_self_of_lt (by simp; omega), List.getD_eq_getElem?_getD, List.getElem?_dropLast, if_neg (by omega)]
      rfl
    · rw [Array.getElem?_setIfInBounds_ne (by omega), Array.getElem?_setIfInBounds_ne (by omega), lsA_at (by omega) hi, List.getD_eq_getElem?_getD, List.getD_eq_getElem?_getD, List.getElem?_dropLast]
      by_cases hl : i < l.length - 1
      · rw [if_pos hl]
      · rw [if_neg hl, List.getElem?_eq_none (by omega)]
/-- What pushed, popped and stolen give. -/
def ListD (l : List Int) (w : World) (e : Ending) (w' : World) : Prop := e = .returned (.agg (lsA l)) ∧ Below w.heap.size w w'
/-- The zero of a list. -/
abbrev lsZ : Array Value := #[.int .i64 0, .int .i64 0, .int .i64 0, .int .i64 0, .int .i64 0, .int .i64 0, .int .i64 0, .int .i64 0, .int .i64 0, .int .i64 0, .int .i64 0, .int .i64 0, .int .i64 0]
theorem lsA_one {l : List Int} : (lsA l).all (·.oneCell') = true := by
  unfold lsA
  simp [Value.oneCell']

theorem Blk.away {w : World} {b : Nat} {t : TypeId} {cs : Array Value} (h : Blk w b t cs) {p : Addr} (hne : b ≠ p.block) (v : Value) : Blk (w.setCell p v) b t cs := h.of_same (Below.heap_setCell w p v b hne)
theorem below_set {w0 w : World} (h : Below w0.heap.size w0 w) {g i : Nat} (hg : w0.heap.size ≤ g) (v : Value) : Below w0.heap.size w0 (w.setCell ⟨g, i, none⟩ v) :=
  below_of_fr h ((Fr.refl [g] w).setCell (by simp) v) (fun x hx => by simp at hx; omega)
theorem Blk.setRow {w : World} {b : Nat} {t : TypeId} {cs : Array Value} (h : Blk w b t cs) (cs' : Array Value) : Blk (w.setRow b cs') b t cs' := setRow_heap w b cs cs' t (0, 0) h
theorem below_rowg {w W : World} (hb : Below w.heap.size w W) {g : Nat} (hg : w.heap.size ≤ g) (cs : Array Value) : Below w.heap.size w (W.setRow g cs) :=
  ⟨hb.os, hb.tape, hb.output, by rw [size_setRow]; exact hb.size, fun k hk => (setRow_other W g k cs (by omega)).trans (hb.block k hk)⟩
/-- Two blocks of a call: the parameter's copy, the result. -/
theorem two_laid (w : World) (t1 t2 : TypeId) (c1 c2 : Array Value) : Blk ((w.alloc (.cells c1 t1)).alloc (.cells c2 t2)) w.heap.size t1 c1 ∧ Blk ((w.alloc (.cells c1 t1)).alloc (.cells c2 t2)) (w.heap.size + 1) t2 c2 ∧ Below w.heap.size w ((w.alloc (.cells c1 t1)).alloc (.cells c2 t2)) := by
  have h1 := (Blk.made w t1 c1).alloc (.cells c2 t2)
  have h2 := Blk.made (w.alloc (.cells c1 t1)) t2 c2
  rw [show (w.alloc (.cells c1 t1)).heap.size = w.heap.size + 1 by simp] at h2
  exact ⟨h1, h2, ((Below.refl _ _).alloc (Nat.le_refl _) _).alloc (by simp) _⟩

set_option maxRecDepth 100000 in
set_option maxHeartbeats 4000000 in
theorem pushed_any (l : List Int) (v : Int) (hl : l.length < 12) (w : World) : Calls Tryz.prog 118 #[.agg (lsA l), .int .i64 v] w (ListD (l ++ [v]) w) := by
  obtain ⟨n, hn⟩ : ∃ n, l.length = n := ⟨_, rfl⟩
  have hS := lsA_size (l := l) (by omega)
  have HP := lsA_push hl v
  rw [hn] at HP
  have HP := Lib.hid HP
  have HS2 := Lib.hid (lsA_size (l := l ++ [v]) (by simp; omega))
  have H2 := Lib.hid (And.intro (two_laid w 163 163 (lsA l) lsZ).1 (two_laid w 163 163 (lsA l) lsZ).2.1)
  have HB := Lib.hid (two_laid w 163 163 (lsA l) lsZ).2.2
  go_enter Tryz.func118, Tryz.ntmps118
  go_upto_region 1 with fail
  generalize (w.alloc (.cells (lsA l) 163)).alloc (.cells lsZ 163) = W at *
  obtain ⟨g, hg⟩ : ∃ g, w.heap.size = g := ⟨_, rfl⟩
  have HG := Lib.hid (show w.heap.size ≤ g by omega)
  rw [hg] at H2 ⊢
  have c0 := H2.out.1.at_ 0
  rw [lsA_0, hn] at c0
  have c1 := H2.out.1.at_ (1 + n)
  rw [lsA_at (by omega) (by omega)] at c1
  have hn0 : (0 : Int) ≤ (n : Int) := by omega
  have hn1 : (n : Int) < 12 := by omega
  have f0 := H2.out.1.free 0
  have f1 := H2.out.1.free (1 + n)
  clear hg
  generalize lsA l = cs at *
  go_upto_region 2 with fail
  clear c1 f0 f1
  have c2 : (W.setCell ⟨g, 1 + n, none⟩ (.int .i64 v)).cell? ⟨g, 0, none⟩ = some (.int .i64 n) := by
    rw [(H2.out.1.put (1 + n) (.int .i64 v)).at_ 0, Array.getElem?_setIfInBounds_ne (by omega), ← H2.out.1.at_ 0]
    exact c0
  clear c0
  have HL3 := Lib.hid (H2.out.1.put (1 + n) (.int .i64 v))
  have HR3 := Lib.hid (H2.out.2.away (p := ⟨g, 1 + n, none⟩) (show g + 1 ≠ g by omega) (.int .i64 v))
  have HB3 := Lib.hid (below_set HB.out (i := 1 + n) HG.out (.int .i64 v))
  clear H2 HB
  have f0 := HL3.out.free 0
  generalize W.setCell ⟨g, 1 + n, none⟩ (.int .i64 v) = W3 at *
  go_upto_region 3 with fail
  clear c2 f0
  have HL4 := Lib.hid (HP.out ▸ HL3.out.put 0 (.int .i64 ((n : Int) + 1)))
  have HR4 := Lib.hid (HR3.out.away (p := ⟨g, 0, none⟩) (show g + 1 ≠ g by omega) (.int .i64 ((n : Int) + 1)))
  have HB4 := Lib.hid (below_set HB3.out (i := 0) HG.out (.int .i64 ((n : Int) + 1)))
  clear HL3 HR3 HB3
  generalize W3.setCell ⟨g, 0, none⟩ (.int .i64 ((n : Int) + 1)) = W4 at *
  go_wp2_with (first | (refine wpList_load_row rfl 163 (.tmp 2) rfl g rfl 163 _ (0, 0) _ HL4.out Tryz.underlying163 rfl (info_list _ HS2.out) ?_) | (refine wpList_store_rowTo rfl 163 (.tmp 4) (.tmp 14) rfl rfl (g + 1) (lsA (l ++ [v])) rfl rfl 163 lsZ HR4.out (info_list _ HS2.out) (by rw [HS2.out]; rfl) lsA_one ?_))
  refine bodyPost_ret (results_cell_row (P := Tryz.prog) Tryz.results118 _ _ (g + 1) 163 _ (0, 0) _ rfl (HR4.out.setRow _) Tryz.underlying163 rfl (info_list _ HS2.out)) rfl ?_
  exact ⟨rfl, below_rowg HB4.out (by have := HG.out; omega) _⟩
set_option maxRecDepth 100000 in
set_option maxHeartbeats 4000000 in
theorem popped_any (l : List Int) (hl : l.length ≤ 12) (hne : l ≠ []) (w : World) : Calls Tryz.prog 119 #[.agg (lsA l)] w (ListD l.dropLast w) := by
  obtain ⟨n, hn⟩ : ∃ n, l.length = n := ⟨_, rfl⟩
  have hp : 0 < l.length := List.length_pos_iff.2 hne
  obtain ⟨m, hm⟩ : ∃ m : Nat, n = m + 1 := ⟨n - 1, by omega⟩
  have hm2 : (n : Int) - 1 = (m : Int) := by omega
  have hS := lsA_size hl
  have HP := lsA_pop hl hne
  rw [hn, hm2, show n - 1 = m by omega] at HP
  have HP := Lib.hid HP
  have HS2 := Lib.hid (lsA_size (l := l.dropLast) (by rw [List.length_dropLast]; omega))
  have H2 := Lib.hid (And.intro (two_laid w 163 163 (lsA l) lsZ).1 (two_laid w 163 163 (lsA l) lsZ).2.1)
  have HB := Lib.hid (two_laid w 163 163 (lsA l) lsZ).2.2
  go_enter Tryz.func119, Tryz.ntmps119
  go_upto_region 1 with fail
  generalize (w.alloc (.cells (lsA l) 163)).alloc (.cells lsZ 163) = W at *
  obtain ⟨g, hg⟩ : ∃ g, w.heap.size = g := ⟨_, rfl⟩
  have HG := Lib.hid (show w.heap.size ≤ g by omega)
  rw [hg] at H2 ⊢
  have c0 := H2.out.1.at_ 0
  rw [lsA_0, hn] at c0
  have c1 := H2.out.1.at_ (1 + m)
  rw [lsA_at (by omega) (by omega)] at c1
  have C1 := Lib.hid c1
  have hn0 : (0 : Int) ≤ (n : Int) := by omega
  have hn1 : (n : Int) ≤ 12 := by omega
  have hm0 : (0 : Int) ≤ (m : Int) := by omega
  have hm1 : (m : Int) < 12 := by omega
  have f0 := H2.out.1.free 0
  have HM2 := Lib.hid hm2
  clear hg c1 hm2 hp hm
  generalize lsA l = cs at *
  go_upto_region 2 with fail
  clear c0 f0
  have HL3 := Lib.hid (H2.out.1.put 0 (.int .i64 ((n : Int) - 1)))
  have HR3 := Lib.hid (H2.out.2.away (p := ⟨g, 0, none⟩) (show g + 1 ≠ g by omega) (.int .i64 ((n : Int) - 1)))
  have HB3 := Lib.hid (below_set HB.out (i := 0) HG.out (.int .i64 ((n : Int) - 1)))
  have c2 := HL3.out.at_ (1 + m)
  rw [Array.getElem?_setIfInBounds_ne (by omega), ← H2.out.1.at_ (1 + m), C1.out] at c2
  have c3 : (W.setCell ⟨g, 0, none⟩ (.int .i64 ((n : Int) - 1))).cell? ⟨g, 0, none⟩ = some (.int .i64 m) := by
    rw [HL3.out.at_ 0, Array.getElem?_setIfInBounds_self_of_lt (by omega)]
    exact congrArg (fun x => some (Value.int .i64 x)) HM2.out
  clear H2 HB C1
  have f1 := HL3.out.free (1 + m)
  generalize W.setCell ⟨g, 0, none⟩ (.int .i64 ((n : Int) - 1)) = W3 at *
  rw [HM2.out] at HL3
  go_upto_region 3 with fail
  clear c2 c3 f1
  have HL4 := Lib.hid (HP.out ▸ HL3.out.put (1 + m) (.int .i64 0))
  have HR4 := Lib.hid (HR3.out.away (p := ⟨g, 1 + m, none⟩) (show g + 1 ≠ g by omega) (.int .i64 0))
  have HB4 := Lib.hid (below_set HB3.out (i := 1 + m) HG.out (.int .i64 0))
  clear HL3 HR3 HB3
  generalize W3.setCell ⟨g, 1 + m, none⟩ (.int .i64 0) = W4 at *
  go_wp2_with (first | (refine wpList_load_row rfl 163 (.tmp 1) rfl g rfl 163 _ (0, 0) _ HL4.out Tryz.underlying163 rfl (info_list _ HS2.out) ?_) | (refine wpList_store_rowTo rfl 163 (.tmp 2) (.tmp 11) rfl rfl (g + 1) (lsA l.dropLast) rfl rfl 163 lsZ HR4.out (info_list _ HS2.out) (by rw [HS2.out]; rfl) lsA_one ?_))
  refine bodyPost_ret (results_cell_row (P := Tryz.prog) Tryz.results119 _ _ (g + 1) 163 _ (0, 0) _ rfl (HR4.out.setRow _) Tryz.underlying163 rfl (info_list _ HS2.out)) rfl ?_
  exact ⟨rfl, below_rowg HB4.out (by have := HG.out; omega) _⟩
/-- A copy into a row: nothing else changes. -/
theorem wpList_copy_in {w : World} {ops : Array Oper} {rest : List Oper} {o : Oper} {a : Act} {Q : Exit → Act → World → Prop} (hgd : o.guard = none) (d s : Operand) (dT sT : TypeId)
    (ho : o.op = .call { callee := .builtin .copy, args := #[d, s], argTypes := #[dT, sT] }) (elem : TypeId) (hu : Tryz.prog.underlying dT = some (.slice elem)) (hsz : (Tryz.prog.info? elem).map (·.size) = some 1)
    (g off dLen dCap : Nat) (ad : Addr) (sLen sCap : Nat) (hd : a.eval d = .slice (some ⟨g, off, none⟩) dLen dCap) (hs : a.eval s = .slice (some ad) sLen sCap)
    (cur : List Value) (t : TypeId) (hg : w.heap[g]? = some (.cells cur.toArray t (0, 0))) (cs : List Value) (hn : cs.length = Nat.min sLen dLen) (hsrc : ∀ j v, cs[j]? = some v → w.cell? (ad.add j) = some v)
    (hfit : off + cs.length ≤ cur.length) (h1 : ∀ v ∈ cs, v.oneCell' = true)
    (h : ∀ w', Blk w' g t (splice cur off cs).toArray → Fr [g] w w' → wpList Tryz.prog ops Q rest (a.put o.dst (goInt cs.length)) w') : wpList Tryz.prog ops Q (o :: rest) a w := by
  by_cases h0 : cs.length = 0
  · obtain rfl : cs = [] := List.eq_nil_of_length_eq_zero h0
    refine wpList_copy_nothing hgd d s dT sT ho elem hu hsz _ _ dLen dCap sLen sCap hd hs (by simpa using hn.symm) ?_
    exact h w (show _ = _ by simpa [splice] using hg) (Fr.refl _ _)
  · refine wpList_copy_own hgd d s dT sT ho elem hu hsz g off dLen dCap ad sLen sCap hd hs cur.toArray t hg cs hn hsrc (by simpa using hfit) h1 ?_
    exact h _ (show _ = _ by simpa [splice] using setRow_heap w g _ _ t _ hg) ⟨rfl, rfl, rfl, by simp [World.setRow], fun k _ hk => setRow_other w g k _ (by simpa using hk)⟩
theorem lsA_list (l : List Int) : ((lsL l).map (Value.int .i64)).toArray = lsA l := rfl
theorem lsA_steal {l : List Int} (h : l.length ≤ 12) (hn : l ≠ []) : (splice ((lsL l).map (Value.int .i64)) 1 (((l.drop 1)).map (Value.int .i64))).toArray = lsA (l.tail ++ [l.getD (l.length - 1) 0]) := by
  have hp : 0 < l.length := List.length_pos_iff.2 hn
  refine lsA_eq (by simp; omega) ?_ ?_ (fun i hi => ?_)
  · have := lsL_len h
    rw [List.size_toArray, length_splice _ _ _ (by simp [this]; omega)]
    simpa using this
  · unfold splice lsL
    simp
    omega
  · have h13 := lsL_len h
    unfold splice
    rw [List.getElem?_toArray, List.getElem?_append_right (by simp; omega)]
    have ht : (List.take 1 ((lsL l).map (Value.int .i64))).length = 1 := by simp [h13]
    rw [ht, show 1 + i - 1 = i by omega]
    by_cases h1 : i < l.length - 1
    · rw [List.getElem?_append_left (by simp; omega), List.getElem?_map, List.getElem?_drop, List.getD_eq_getElem?_getD, List.getElem?_append_left (by simp; omega), List.getElem?_tail, show 1 + i = i + 1 by omega, List.getElem?_eq_getElem (by omega)]
      rfl
    · rw [List.getElem?_append_right (by simp; omega), List.getElem?_drop]
      have e : 1 + (List.map (Value.int IntKind.i64) (List.drop 1 l)).length + (i - (List.map (Value.int IntKind.i64) (List.drop 1 l)).length) = 1 + i := by simp; omega
      rw [e]
      have h2 := lsA_at h hi
      unfold lsA at h2
      rw [List.getElem?_toArray] at h2
      rw [h2, List.getD_eq_getElem?_getD, List.getD_eq_getElem?_getD]
      by_cases h3 : i = l.length - 1
      · rw [h3, List.getElem?_append_right (by simp)]
        simp
      · rw [List.getElem?_eq_none (by omega), List.getElem?_eq_none (by simp; omega)]
theorem steal_len {l : List Int} (hn : l ≠ []) : (l.tail ++ [l.getD (l.length - 1) 0]).length = l.length := by
  have hp : 0 < l.length := List.length_pos_iff.2 hn
  simp
  omega
theorem steal_drop (l : List Int) (x : Int) : (l.tail ++ [x]).dropLast = l.tail := List.dropLast_concat ..
set_option maxRecDepth 100000 in
set_option maxHeartbeats 4000000 in
theorem stolen_any (l : List Int) (hl : l.length ≤ 12) (hne : l ≠ []) (w : World) : Calls Tryz.prog 120 #[.agg (lsA l)] w (ListD l.tail w) := by
  obtain ⟨n, hn⟩ : ∃ n, l.length = n := ⟨_, rfl⟩
  have hp : 0 < l.length := List.length_pos_iff.2 hne
  have HST := lsA_steal hl hne
  have HQ := And.intro (steal_len hne) (steal_drop l (l.getD (l.length - 1) 0))
  have hL0 : l.tail ++ [l.getD (l.length - 1) 0] ≠ [] := by simp
  obtain ⟨L2, hL2⟩ : ∃ L2, l.tail ++ [l.getD (l.length - 1) 0] = L2 := ⟨_, rfl⟩
  rw [hL2] at HST HQ hL0
  have HST := Lib.hid HST
  have HQ := Lib.hid (And.intro HQ.1 (And.intro HQ.2 hL0))
  clear hL2 hL0
  have HL2 := Lib.hid (And.intro hl (And.intro hne hn))
  have HS2 := Lib.hid (lsA_size (l := l.tail) (by simp; omega))
  have H2 := Lib.hid (And.intro (two_laid w 163 163 (lsA l) lsZ).1 (two_laid w 163 163 (lsA l) lsZ).2.1)
  have HB := Lib.hid (two_laid w 163 163 (lsA l) lsZ).2.2
  go_enter Tryz.func120, Tryz.ntmps120
  go_upto_region 1 with fail
  generalize (w.alloc (.cells (lsA l) 163)).alloc (.cells lsZ 163) = W at *
  obtain ⟨g, hg⟩ : ∃ g, w.heap.size = g := ⟨_, rfl⟩
  have HG := Lib.hid (show w.heap.size ≤ g by omega)
  rw [hg] at H2 ⊢
  have c0 := H2.out.1.at_ 0
  rw [lsA_0, hn] at c0
  have hn0 : (1 : Int) ≤ (n : Int) := by omega
  have hn1 : (n : Int) ≤ 12 := by omega
  clear hg
  go_still_tail 6, (by kernel_rfl)
  change wpList _ _ _ _ _ W.drew
  have H3 := Lib.hid (And.intro (H2.out.1.below (below_drew (Below.refl _ _))) (H2.out.2.below (below_drew (Below.refl _ _))))
  have HB3 := Lib.hid (below_drew HB.out)
  clear H2 HB c0
  generalize W.drew = W3 at *
  refine wpList_copy_in rfl (.tmp 4) (.tmp 8) 60 60 rfl 3 Tryz.underlying60 (by kernel_rfl) g 1 12 12 ⟨g, 2, none⟩ (n - 1) 11 rfl rfl ((lsL l).map (Value.int .i64)) 163 H3.out.1 ((l.drop 1).map (Value.int .i64)) ?_ ?_ ?_ ?_ ?_
  · have := HL2.out
    rw [List.length_map, List.length_drop, this.2.2]
    exact (Nat.min_eq_left (by omega)).symm
  · intro j v hj
    have hjl : j < ((l.drop 1).map (Value.int .i64)).length := (List.getElem?_eq_some_iff.1 hj).1
    rw [List.length_map, List.length_drop] at hjl
    have ea : (⟨g, 2, none⟩ : Addr).add j = ⟨g, 1 + (1 + j), none⟩ := by
      unfold Addr.add
      split
      · rename_i h0
        rw [h0]
      · simp only [Addr.mk.injEq, true_and, and_true]
        omega
    have := HL2.out
    rw [ea, H3.out.1.at_, lsA_at (by omega) (by omega), ← hj, List.getElem?_map, List.getElem?_drop, List.getD_eq_getElem?_getD, List.getElem?_eq_getElem (by omega)]
    rfl
  · have := HL2.out
    rw [List.length_map, List.length_map, List.length_drop, lsL_len (by omega)]
    omega
  · intro v hv
    obtain ⟨z, _, rfl⟩ := List.mem_map.1 hv
    rfl
  intro W4 HL4 hF4
  have HR4 := Lib.hid (H3.out.2.of_same (hF4.block (g + 1) H3.out.2.lt (by simp)))
  have HL4 := Lib.hid (HST.out ▸ (HL4 : Blk W4 g 163 _))
  have HB4 := Lib.hid (below_of_fr HB3.out hF4 (fun x hx => by simp at hx; have := HG.out; omega))
  clear H3 HB3 hF4
  have HS4 := Lib.hid (lsA_size (l := L2) (by have := HQ.out.1; have := HL2.out.1; omega))
  go_wp2_with (refine wpList_load_row rfl 163 (.tmp 1) rfl g rfl 163 _ (0, 0) _ HL4.out Tryz.underlying163 rfl (info_list _ HS4.out) ?_)
  (with_reducible refine (popped_any L2 (by have := HQ.out.1; have := HL2.out.1; omega) HQ.out.2.2 _).mono ?_)
  rintro e W5 ⟨rfl, hb5⟩
  have HR5 := Lib.hid (HR4.out.below hb5)
  have HB5 := Lib.hid (HB4.out.trans (hb5.mono HB4.out.size))
  clear hb5 HR4 HB4 HL4
  rw [HQ.out.2.1]
  go_wp2_with (refine wpList_store_rowTo rfl 163 (.tmp 2) (.tmp 11) rfl rfl (g + 1) (lsA l.tail) rfl rfl 163 lsZ HR5.out (info_list _ HS2.out) (by rw [HS2.out]; rfl) lsA_one ?_)
  refine bodyPost_ret (results_cell_row (P := Tryz.prog) Tryz.results120 _ _ (g + 1) 163 _ (0, 0) _ rfl (HR5.out.setRow _) Tryz.underlying163 rfl (info_list _ HS2.out)) rfl ?_
  exact ⟨rfl, below_rowg HB5.out (by have := HG.out; omega) _⟩
end Go.Proofs.YtjehiekmlbeaeaaGreat
