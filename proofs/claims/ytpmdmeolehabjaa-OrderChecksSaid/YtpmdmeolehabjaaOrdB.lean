/-
  slices.Delete of one element, for keys of the injector (rows of three cells).
-/
import Derived.Test.YtpmdmeolehabjaaOrdA
import Derived.Deep.RegionLaw
import Derived.Lib.SliceRun
namespace Go.Proofs.Ytpmdmeolehabjaa
open Go Go.RowKit
set_option linter.unusedSimpArgs false
set_option linter.unusedVariables false

/-- Cells of a block stored one after the other. -/
theorem Blk.setCells {t : TypeId} {g : Nat} : ∀ (xs : List Value) {w : World} {cs : Array Value} (o : Nat), Blk w g t cs → o + xs.length ≤ cs.size → Blk (w.setCells g o xs) g t (cs.toList.take o ++ xs ++ cs.toList.drop (o + xs.length)).toArray
  | [], w, cs, o, h, _ => by
    have e : (cs.toList.take o ++ [] ++ cs.toList.drop (o + ([] : List Value).length)).toArray = cs := by
      rw [List.append_nil, List.length_nil, Nat.add_zero, List.take_append_drop]
    rw [e]
    exact h
  | x :: xs, w, cs, o, h, ho => by
    have ho' : o + (xs.length + 1) ≤ cs.size := by simpa using ho
    have h1 := Blk.setCells xs (o + 1) (h.put o x) (by simp; omega)
    have e : ((cs.setIfInBounds o x).toList.take (o + 1) ++ xs ++ (cs.setIfInBounds o x).toList.drop (o + 1 + xs.length)) = cs.toList.take o ++ (x :: xs) ++ cs.toList.drop (o + (x :: xs).length) := by
      rw [Array.toList_setIfInBounds]
      have hl : o < cs.toList.length := by rw [Array.length_toList]; omega
      rw [List.drop_set_of_lt (by omega), List.take_set, List.length_cons, show o + 1 + xs.length = o + (xs.length + 1) by omega]
      have e2 : (cs.toList.take (o + 1)).set o x = cs.toList.take o ++ [x] := by
        rw [List.take_succ_eq_append_getElem hl, List.set_append_right _ _ (by rw [List.length_take]; omega), List.length_take, Nat.min_eq_left (by omega), Nat.sub_self]
        rfl
      rw [e2]
      simp
    rw [e] at h1
    exact h1
theorem fr_setCells (g : Nat) : ∀ (xs : List Value) (w : World) (o : Nat), Fr [g] w (w.setCells g o xs)
  | [], w, o => Fr.refl _ _
  | x :: xs, w, o => ((Fr.refl [g] w).setCell (p := ⟨g, o, none⟩) (.inl (by simp)) x).trans (fr_setCells g xs _ (o + 1))
/-- A row of the call's own, said of its block's cells. -/
theorem OwnG.of_blk {w : World} {B k : Nat} {t : TypeId} {R : List (List Value)} {g cap : Nat} {cur : Array Value} (h : Blk w g t cur) (hB : B ≤ g) (hR : RowsK k R) (hn : R.length ≤ cap) (hm : cap ≤ maxLen) (hs : cur.size = cap * k) {n : Nat} (hl : R.length = n) (ht : cur.toList.take (n * k) = R.flatten) : OwnG w B t k (.slice (some ⟨g, 0, none⟩) n cap) R := by
  subst hl
  exact ⟨hR, hR.len, .inr ⟨g, cap, cur, rfl, hB, h, hn, hm, hs, ht⟩⟩
/-- clear of a slice with one element of three numbers. -/
theorem run_clear3 (w : World) (t e ty : TypeId) (ht : Try.prog.underlying t = some (.slice e)) (hv : ∀ w, (zeroValue e).run Try.prog w = .ok (.agg #[.int .i64 0, .int .i64 0, .int .i64 0]) w) (b o c : Nat)
    (hc : ∀ j, j < 3 → (w.cell? ⟨b, o + j, none⟩).isSome = true) (hf : ∀ j, j < 3 → w.frozen? ⟨b, o + j, none⟩ = false) :
    (Builtin.clear_ #[t] ty #[.slice (some ⟨b, o, none⟩) 1 c]).run Try.prog w = .ok (.tuple #[]) (w.setCells b o [.int .i64 0, .int .i64 0, .int .i64 0]) := by
  have hzc : (Builtin.zeroCells (Value.agg #[.int .i64 0, .int .i64 0, .int .i64 0]).cells 1).toList = [.int .i64 0, .int .i64 0, .int .i64 0] := by kernel_rfl
  have hst := run_storeCells_cells (P := Try.prog) b o [.int .i64 0, .int .i64 0, .int .i64 0] 0 w (by simpa using hc) (by simpa using hf) (by
    intro v hv'
    simp only [List.mem_cons, List.not_mem_nil, or_false, or_self] at hv'
    subst hv'
    rfl)
  simp only [Nat.add_zero] at hst
  simp [Builtin.clear_, run_underlying ht, hv, hzc, hst]
theorem key_zero : ∀ w : World, (zeroValue 72).run Try.prog w = .ok (.agg #[.int .i64 0, .int .i64 0, .int .i64 0]) w := fun w => by kernel_rfl
theorem info_key : (Try.prog.info? 72).map (fun i => (i.zero, i.size, i.bytes)) = some (some (.agg #[.int .i64 0, .int .i64 0, .int .i64 0]), 3, 24) := by kernel_rfl
theorem erase_flat {k : Nat} {R : List (List Value)} (h : RowsK k R) {i : Nat} (hi : i < R.length) : (R.eraseIdx i).flatten = R.flatten.take (i * k) ++ R.flatten.drop ((i + 1) * k) := by
  induction R generalizing i with
  | nil => simp at hi
  | cons r R ih =>
    have hr := (h r (List.mem_cons_self ..)).1
    cases i with
    | zero =>
      rw [List.eraseIdx_cons_zero, Nat.zero_mul, List.take_zero, List.nil_append, Nat.zero_add, Nat.one_mul, List.flatten_cons, ← hr, List.drop_left]
    | succ i =>
      rw [List.eraseIdx_cons_succ, List.flatten_cons, List.flatten_cons, ih (fun x hx => h x (List.mem_cons_of_mem _ hx)) (by simpa using hi)]
      have e1 : (r ++ R.flatten).take ((i + 1) * k) = r ++ R.flatten.take (i * k) := by
        rw [List.take_append, hr, List.take_of_length_le (by rw [hr, Nat.add_mul]; omega), show (i + 1) * k - k = i * k by rw [Nat.add_mul]; omega]
      have e2 : (r ++ R.flatten).drop ((i + 1 + 1) * k) = R.flatten.drop ((i + 1) * k) := by
        rw [List.drop_append, hr, List.drop_eq_nil_of_le (by rw [hr, Nat.add_mul, Nat.add_mul]; omega), List.nil_append, show (i + 1 + 1) * k - k = (i + 1) * k by rw [Nat.add_mul (i + 1)]; omega]
      rw [e1, e2, List.append_assoc]
theorem rows_erase {k : Nat} {R : List (List Value)} (h : RowsK k R) (i : Nat) : RowsK k (R.eraseIdx i) := fun x hx => h x (List.mem_of_mem_eraseIdx hx)
set_option maxHeartbeats 4000000 in
set_option maxRecDepth 1000000 in
theorem delete_any {w : World} {B : Nat} {v : Value} {R : List (List Value)} (h : OwnG w B 72 3 v R) {i : Nat} (hi : i < R.length) (hm : R.length ≤ 1000) {j : Int} (hj : j = (i : Int) + 1) :
    Calls Try.prog 33 #[v, .int .i64 i, .int .i64 j] w fun e w' => ∃ g cap, v = .slice (some ⟨g, 0, none⟩) R.length cap ∧ e = .returned (.slice (some ⟨g, 0, none⟩) (R.length - 1) cap) ∧ OwnG w' B 72 3 (.slice (some ⟨g, 0, none⟩) (R.length - 1) cap) (R.eraseIdx i) ∧ Fr [g] w w' := by
  obtain ⟨J, hJ⟩ : ∃ J : Nat, i + 1 = J := ⟨_, rfl⟩
  obtain rfl : j = (J : Int) := by omega
  clear hj
  rcases h.2.2 with ⟨rfl, h2⟩ | ⟨g, cap, cur, rfl, hB, hg, hn, hmx, hs, ht⟩
  · omega
  have hg' : Blk w g 72 cur := hg
  obtain ⟨n, hN⟩ : ∃ n, R.length = n := ⟨_, rfl⟩
  rw [hN] at hi hm hn ht ⊢
  have hfl : R.flatten.length = n * 3 := by rw [h.1.len, hN]
  have hlc : cur.toList.length = cap * 3 := by rw [Array.length_toList]; exact hs
  -- the cells that are moved to the left
  obtain ⟨news, hnews⟩ : ∃ news, news = R.flatten.drop (J * 3) := ⟨_, rfl⟩
  have hlen : news.length = (n - J) * 3 := by rw [hnews, List.length_drop, hfl, Nat.sub_mul]
  have hcur : ∀ q, q < n * 3 → cur[q]? = R.flatten[q]? := fun q hq => by rw [← ht, List.getElem?_take, if_pos hq, Array.getElem?_toList]
  obtain ⟨A, hA, hsrc⟩ : ∃ A : Addr, (if cap = J then some (⟨g, 0, none⟩ : Addr) else some ⟨g, J * 3, none⟩) = some A ∧ Hid (∀ t u, news[t]? = some u → w.drew.cell? (A.add t) = some u) := by
    by_cases hq : cap = J
    · refine ⟨⟨g, 0, none⟩, by simp [hq], fun t u hu => ?_⟩
      have h0 : news.length = 0 := by rw [hlen]; omega
      rw [List.length_eq_zero_iff.1 h0] at hu
      simp at hu
    · refine ⟨⟨g, J * 3, none⟩, by simp [hq], fun t u hu => ?_⟩
      have ht2 : t < (n - J) * 3 := by
        have := (List.getElem?_eq_some_iff.1 hu).1
        rwa [hlen] at this
      rw [hnews, List.getElem?_drop] at hu
      rw [Addr.add_lit]
      exact (hg'.at_ (J * 3 + t)).trans ((hcur _ (by omega)).trans hu)
  have s1 : Hid (news.length = (n - J) * 3) := hlen
  have s2 : Hid (∀ u ∈ news, u.oneCell' = true) := fun u hu => h.1.one u (List.mem_of_mem_drop (by rw [hnews] at hu; exact hu))
  have s3 : Hid (∀ t, t < news.length → (w.drew.cell? ⟨g, 0 + i * 3 + t, none⟩).isSome = true ∧ w.drew.frozen? ⟨g, 0 + i * 3 + t, none⟩ = false) := by
    intro t ht2
    rw [hlen] at ht2
    refine ⟨?_, hg'.free _⟩
    show (w.cell? _).isSome = true
    rw [hg'.at_, Array.getElem?_eq_getElem (by rw [hs]; omega)]
    rfl
  -- the world behind the append
  obtain ⟨W1, hW1⟩ : ∃ W1, W1 = w.drew.setCells g (0 + i * 3) news := ⟨_, rfl⟩
  have hB1 : Blk W1 g 72 (cur.toList.take (i * 3) ++ news ++ cur.toList.drop (i * 3 + news.length)).toArray := by
    rw [hW1, Nat.zero_add]
    exact Blk.setCells news (i * 3) (show Blk w.drew g _ _ from hg') (by rw [hlen, hs]; omega)
  have hF1 : Fr [g] w W1 := by
    rw [hW1]
    exact (Fr.drew (Fr.refl [g] w)).trans (fr_setCells g news w.drew (0 + i * 3))
  have hsz1 : (cur.toList.take (i * 3) ++ news ++ cur.toList.drop (i * 3 + news.length)).toArray.size = cap * 3 := by
    rw [List.size_toArray, List.length_append, List.length_append, List.length_take, List.length_drop, hlen, hlc]
    omega
  have hT1 : (cur.toList.take (i * 3) ++ news ++ cur.toList.drop (i * 3 + news.length)).take ((n - 1) * 3) = (R.eraseIdx i).flatten := by
    rw [erase_flat h.1 (by rw [hN]; exact hi), hJ, ← hnews]
    have e1 : cur.toList.take (i * 3) = R.flatten.take (i * 3) := by rw [← ht, List.take_take, Nat.min_eq_left (by omega)]
    rw [e1]
    have e2 : (R.flatten.take (i * 3) ++ news).length = (n - 1) * 3 := by rw [List.length_append, List.length_take, hlen, hfl]; omega
    rw [← e2, List.take_left]
  generalize hC1 : (cur.toList.take (i * 3) ++ news ++ cur.toList.drop (i * 3 + news.length)) = C1 at *
  obtain ⟨M, hM⟩ : ∃ M : Nat, n - 1 = M := ⟨_, rfl⟩
  rw [hM] at hT1
  have hn1 : n - M = 1 := by omega
  have hcl : ∀ ty, (Builtin.clear_ #[56] ty #[.slice (some ⟨g, M * 3, none⟩) 1 (cap - M)]).run Try.prog W1 = .ok (.tuple #[]) (W1.setCells g (M * 3) [.int .i64 0, .int .i64 0, .int .i64 0]) :=
    fun ty => run_clear3 W1 _ _ ty Try.underlying56 key_zero g (M * 3) _ (fun q hq => by rw [hB1.at_, Array.getElem?_eq_getElem (by rw [hsz1]; omega)]; rfl) (fun q _ => hB1.free _)
  have hB2 : Blk (W1.setCells g (M * 3) [.int .i64 0, .int .i64 0, .int .i64 0]) g 72 _ := Blk.setCells [.int .i64 0, .int .i64 0, .int .i64 0] (M * 3) hB1 (by rw [hsz1]; simp; omega)
  have hEnd := Lib.hid (show OwnG (W1.setCells g (M * 3) [.int .i64 0, .int .i64 0, .int .i64 0]) B 72 3 (.slice (some ⟨g, 0, none⟩) M cap) (R.eraseIdx i) ∧ Fr [g] w (W1.setCells g (M * 3) [.int .i64 0, .int .i64 0, .int .i64 0]) from by
    have hlE : (R.eraseIdx i).length = M := by rw [List.length_eraseIdx_of_lt (by rw [hN]; exact hi), hN, hM]
    refine ⟨?_, hF1.trans (fr_setCells g _ W1 _)⟩
    have hC1l : C1.length = cap * 3 := by simpa using hsz1
    refine OwnG.of_blk hB2 hB (rows_erase h.1 i) (by omega) hmx ?_ hlE ?_
    · simp only [List.size_toArray, List.length_append, List.length_take, List.length_drop, List.length_cons, List.length_nil, hC1l]
      omega
    · rw [← hT1]
      show ((C1.take (M * 3) ++ [_, _, _] ++ C1.drop _)).take (M * 3) = _
      rw [List.append_assoc, List.take_left' (by rw [List.length_take, hC1l]; omega)])
  have HW := Lib.hid hW1
  have hic : i ≤ cap := by omega
  have hjc : J ≤ cap := by omega
  have heq : ((i : Int) == (J : Int)) = false := by simp; omega
  have hin : i ≤ J := by omega
  have hJn : J ≤ n := by omega
  obtain ⟨i0, hI, hz0, hz1, hz2⟩ := info_partsG info_key
  have HJ := Lib.hid hJ
  have HM := Lib.hid hM
  clear hM hJ hW1 hB1 hB2 hF1 hT1 hsz1 hcur hfl hlc hnews hlen hC1 hg hg' ht h
  go_enter Try.func33, Try.ntmps33
  go_wp2_with fail
  go_region_law (refine step_append_room rfl (.tmp 22) (.tmp 25) 56 rfl 72 i0 3 Try.underlying56 hI hz1 g 0 i cap (by simp [Act.eval, Act.put]) A (n - J) (cap - J) news (by simp [Act.eval, Act.put]) s1.out hsrc.out s2.out (by omega) s3.out ?_; rw [← HW.out])
  have hMM : i + (n - J) = M := by have := HJ.out; omega
  rw [hMM]
  have hMc : ¬ (cap = M) := by omega
  have hMn : M ≤ n := by omega
  go_wp2
  go_ret
  rw [HM.out]
  exact ⟨g, cap, rfl, rfl, hEnd.out.1, hEnd.out.2⟩
end Go.Proofs.Ytpmdmeolehabjaa
