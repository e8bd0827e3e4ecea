/-
  The keep's Queue and Deque.
-/
import Derived.Test.YtplifdmfoeejaaaMgAK
import Derived.Test.YtplifdmfoeejaaaMgAA
import Derived.Test.YtplifdmfoeejaaaMgAD
import Derived.Test.YtplifdmfoeejaaaMgAC
import Derived.LoopTactic
import Derived.Deep.Cut
namespace Go.Proofs.Ytplifdmfoeejaaa
open Go Go.RowKit
set_option linter.unusedSimpArgs false

theorem queue_any (n : Int) (w : World) : Calls Try.prog 8 #[.int .i64 n] w fun e w' => e = .returned (qv 0 1 2 n) ∧ Below w.heap.size w w' := by
  have HB := Lib.hid (below_one w (.cells #[.int .i64 0, .int .i64 1, .int .i64 2, .int .i64 n] 25))
  have HX := Lib.hid (Blk.made w 25 #[.int .i64 0, .int .i64 1, .int .i64 2, .int .i64 n])
  go_enter Try.func8, Try.ntmps8
  go_wp2
  refine bodyPost_ret (results_cell_row (P := Try.prog) Try.results8 _ _ w.heap.size 25 _ (0, 0) _ rfl HX.out Try.underlying25 rfl (by kernel_rfl)) rfl ?_
  exact ⟨rfl, HB.out⟩

/-- The cell of an index, in a deque from cell 2 on. -/
theorem ring2 (n : Nat) (hn : 1 ≤ n ∧ n ≤ 100) (i : Int) : ∃ r : Nat, r < n ∧ (r : Int) = i % n ∧ ringI 2 n i = ((2 + r : Nat) : Int) := by
  have h1 := Int.emod_nonneg i (show (n : Int) ≠ 0 by omega)
  have h2 := Int.emod_lt_of_pos i (show (0 : Int) < n by omega)
  refine ⟨(i % n).toNat, by omega, by omega, ?_⟩
  unfold ringI
  rw [if_neg (by omega)]
  unfold wrap64
  omega
/-- The words X are those of a deque whose indices begin with t, and which has the words l as entries. -/
structure DqX (X : List Int) (n t : Nat) (l : List Int) : Prop where
  top : X.getD 0 0 = t
  ent : ∀ i, i < l.length → X.getD (2 + (t + i) % n) 0 = l.getD i 0
theorem mod_ne {n a b : Nat} (h : a < b) (h' : b < a + n) : a % n ≠ b % n := by
  intro e
  have h1 := Nat.div_add_mod a n
  have h2 := Nat.div_add_mod b n
  have h3 : n * (b / n) = n * (a / n) + (b - a) := by omega
  have h4 : a / n < b / n := by
    rcases Nat.lt_or_ge (a / n) (b / n) with h | h
    · exact h
    · have := Nat.mul_le_mul_left n h
      omega
  have h5 : n * (a / n + 1) ≤ n * (b / n) := Nat.mul_le_mul_left n h4
  rw [Nat.mul_add] at h5
  omega
theorem DqX.put {X : List Int} {n t : Nat} {l : List Int} (h : DqX X n t l) (hX : X.length = n + 3) (hn : 1 ≤ n) (hl : l.length < n) (v : Int) : DqX (X.set (2 + (t + l.length) % n) v) n t (l ++ [v]) := by
  have hm := Nat.mod_lt (t + l.length) (show n > 0 by omega)
  refine ⟨?_, fun i hi => ?_⟩
  · rw [List.getD_eq_getElem?_getD, List.getElem?_set_ne (by omega), ← List.getD_eq_getElem?_getD]
    exact h.top
  · rw [List.length_append] at hi
    simp only [List.length_cons, List.length_nil, Nat.zero_add] at hi
    by_cases hil : i < l.length
    · have hne := mod_ne (n := n) (a := t + i) (b := t + l.length) (by omega) (by omega)
      rw [List.getD_eq_getElem?_getD, List.getElem?_set_ne (by omega), ← List.getD_eq_getElem?_getD, h.ent i hil, List.getD_eq_getElem?_getD, List.getD_eq_getElem?_getD, List.getElem?_append_left hil]
    · obtain rfl : i = l.length := by omega
      rw [List.getD_eq_getElem?_getD, List.getElem?_set_self (by omega), List.getD_eq_getElem?_getD, List.getElem?_append_right (Nat.le_refl _), Nat.sub_self]
      rfl

/-- What Deque gives. -/
def DequeD (n : Nat) (t sz : Nat) (w : World) (e : Ending) (w' : World) : Prop :=
  ∃ (g : Nat) (X l : List Int), e = .returned (.slice (some ⟨g, 0, none⟩) (n + 3 : Nat) (n + 3 : Nat)) ∧ Row w' g (n + 3) (n + 3) X ∧ (∀ x, x ∈ X → 0 ≤ x) ∧ w.heap.size ≤ g ∧ Below w.heap.size w w' ∧
    l.length = sz ∧ (∀ x, x ∈ l → 0 ≤ x ∧ x < 1000) ∧ (t + sz < 18446744073709551616 → DqX X n t l ∧ X.getD 1 0 = ((t + sz : Nat) : Int))
/-- What its loop keeps. -/
def DeqL (w : World) (n t sz g : Nat) (i : Value) (wr : World) : Prop :=
  ∃ (j : Nat) (X l : List Int), i = .int .i64 j ∧ j ≤ sz ∧ Row wr g (n + 3) (n + 3) X ∧ (∀ x, x ∈ X → 0 ≤ x) ∧ Below w.heap.size w wr ∧ l.length = j ∧ (∀ x, x ∈ l → 0 ≤ x ∧ x < 1000) ∧ (t + sz < 18446744073709551616 → DqX X n t l ∧ X.getD 1 0 = ((t + sz : Nat) : Int))

theorem set_nn {X : List Int} (h : ∀ x, x ∈ X → 0 ≤ x) (i : Nat) {v : Int} (hv : 0 ≤ v) : ∀ x, x ∈ X.set i v → 0 ≤ x := by
  intro x hx
  rcases List.mem_or_eq_of_mem_set hx with h1 | rfl
  · exact h x h1
  · exact hv

theorem deqL_start (w : World) {n t sz : Nat} (hn : 1 ≤ n ∧ n ≤ 100) {U : Int} (h0 : 0 ≤ U) (hU : t + sz < 18446744073709551616 → U = ((t + sz : Nat) : Int)) :
    DeqL w n t sz w.heap.size (.int .i64 0) (((w.alloc (.cells (madeCells #[.int .u64 0] (n + 3)) 22)).setCell ⟨w.heap.size, 0, none⟩ (.int .u64 t)).setCell ⟨w.heap.size, 1, none⟩ (.int .u64 U)) := by
  have hr := ((made_row w (n + 3) (by omega)).put (i := 0) (t : Int)).put (i := 1) U
  have hb := ((below_one w (.cells (madeCells #[.int .u64 0] (n + 3)) 22)).setCell (p := ⟨w.heap.size, 0, none⟩) (Nat.le_refl _) (.int .u64 t)).setCell (p := ⟨w.heap.size, 1, none⟩) (Nat.le_refl _) (.int .u64 U)
  refine ⟨0, _, [], rfl, by omega, hr, set_nn (set_nn (by intro x hx; rw [List.eq_of_mem_replicate hx]; exact Int.le_refl 0) 0 (by omega)) 1 h0, hb, rfl, by simp, fun hlt => ⟨⟨?_, fun i hi => by simp at hi⟩, ?_⟩⟩
  · simp [List.replicate_succ]
  · rw [← hU hlt]
    simp [List.replicate_succ]
theorem deqL_next {w wr w3 : World} {n t sz g j r : Nat} {X l : List Int} {V : Int} {y : Nat} (hn : 1 ≤ n ∧ n ≤ 100) (hs : sz ≤ n) (ht : t < 18446744073709551616) (hj : j < sz) (hr : Row wr g (n + 3) (n + 3) X) (hX : ∀ x, x ∈ X → 0 ≤ x) (hb : Below w.heap.size w wr) (hl : l.length = j) (hll : ∀ x, x ∈ l → 0 ≤ x ∧ x < 1000) (hd : t + sz < 18446744073709551616 → DqX X n t l ∧ X.getD 1 0 = ((t + sz : Nat) : Int))
    (hV : IntKind.u64.wrap ((t : Int) + (j : Int)) = V) (_ : r < n) (hr2 : (r : Int) = V % n) (h3 : Below wr.heap.size wr w3) (hy : (y : Int) < 1000) (hg : w.heap.size ≤ g) :
    DeqL w n t sz g (.int .i64 ((j + 1 : Nat) : Int)) (w3.setCell ⟨g, 2 + r, none⟩ (.int .u64 (y : Int))) := by
  have hr3 := (hr.of_same (w' := w3) (h3.block g hr.lt)).put (i := 2 + r) (y : Int)
  have hb3 := (hb.trans (h3.mono hb.size)).setCell (p := ⟨g, 2 + r, none⟩) hg (.int .u64 (y : Int))
  refine ⟨j + 1, _, l ++ [(y : Int)], rfl, by omega, hr3, set_nn hX _ (by omega), hb3, by simp [hl], fun x hx => ?_, fun hlt => ?_⟩
  · rcases List.mem_append.1 hx with h | h
    · exact hll x h
    · simp at h
      omega
  · obtain ⟨h1, h2⟩ := hd hlt
    have hVV : V = ((t + j : Nat) : Int) := by
      rw [← hV, IntWalk.u64_in _ (by omega)]
      omega
    have er : r = (t + l.length) % n := by
      rw [hVV] at hr2
      rw [hl]
      omega
    refine ⟨?_, ?_⟩
    · rw [er]
      exact h1.put hr.len hn.1 (by omega) _
    · rw [List.getD_eq_getElem?_getD, List.getElem?_set_ne (by omega), ← List.getD_eq_getElem?_getD]
      exact h2

set_option maxRecDepth 100000 in
set_option maxHeartbeats 8000000 in
theorem deque_any {w : World} {a : Option Addr} {L : Nat} {zs : List Int} (h : InInts w a L zs) (c n t sz : Nat) (hn : 1 ≤ n ∧ n ≤ 100) (ht : t < 18446744073709551616) (hs : sz ≤ n) :
    Calls Try.prog 10 #[.int .i64 n, .int .u64 t, .int .i64 sz, .slice a L c] w (DequeD n t sz w) := by
  have hmk := fun (W : World) => run_make_row' (P := Try.prog) 31 22 (.int .u64 0) 8 Try.underlying31 info_u64 rfl .i64 .i64 (n + 3) (by omega) (by omega) W
  rw [show ((n + 3 : Nat) : Int) = (n : Int) + 3 by omega] at hmk
  have hrow := made_row w (n + 3) (by omega)
  have hb0 := below_one w (.cells (madeCells #[.int .u64 0] (n + 3)) 22)
  have HI2 := Lib.hid h
  obtain ⟨U, hU⟩ : ∃ U, IntKind.u64.wrap ((t : Int) + (sz : Int)) = U := ⟨_, rfl⟩
  have hUn : 0 ≤ U ∧ (t + sz < 18446744073709551616 → U = ((t + sz : Nat) : Int)) := by
    subst hU
    refine ⟨u64_nn _, fun h => ?_⟩
    rw [IntWalk.u64_in _ (by omega)]
    omega
  have HU := Lib.hid hUn
  have hc0 := hrow.cell (i := 0) (by omega)
  have hc1 := hrow.cell (i := 1) (by omega)
  have hf0 := hrow.free 0
  have hf1 := hrow.free 1
  have hX0 : ∀ i : Nat, (List.replicate (n + 3) (0 : Int)).getD i 0 = 0 := by
    intro i
    rw [List.getD_eq_getElem?_getD, List.getElem?_replicate]
    split <;> rfl
  rw [hX0] at hc0 hc1
  have i0 : (0 : Int) < ((n + 3 : Nat) : Int) := by omega
  have i1 : (1 : Int) < ((n + 3 : Nat) : Int) := by omega
  have HN := Lib.hid (And.intro hn (And.intro ht hs))
  have HST := Lib.hid (deqL_start w hn hUn.1 hUn.2)
  clear h hrow hb0 hUn hX0
  generalize hN3 : n + 3 = N3 at *
  have HN3 := Lib.hid hN3
  go_enter Try.func10, Try.ntmps10
  go_upto_region 2 with fail
  generalize w.alloc (.cells (madeCells #[.int .u64 0] N3) 22) = W1 at *
  clear hmk
  go_wp2_with fail
  clear hc0 hc1 hf0 hf1
  generalize hg : w.heap.size = g at *
  have HG := Lib.hid (show w.heap.size ≤ g from Nat.le_of_eq hg)
  clear hg
  go_loopw [10] (fun i wr => DeqL w n t sz g i wr) (fun i _ => sz - (intOf i).toNat)
  case atStart => exact HST.out
  case round =>
    clear HST
    obtain ⟨j, X, l, rfl, hj, hr, hX, hb, hl, hll, hd⟩ := hrel
    by_cases hlt : j < sz
    · obtain ⟨V, hV⟩ : ∃ V, IntKind.u64.wrap ((t : Int) + (j : Int)) = V := ⟨_, rfl⟩
      obtain ⟨r, hr1, hr2, hr3⟩ := ring2 n HN.out.1 V
      have HV := Lib.hid (And.intro hV (And.intro hr1 hr2))
      have HH := Lib.hid (And.intro hr (And.intro hX (And.intro hb (And.intro hl (And.intro hll hd)))))
      have hV0 : 0 ≤ V := by rw [← hV]; exact u64_nn _
      have HQ := Lib.hid (fun W : World => queue_any (n : Int) W)
      have HRG := Lib.hid (fun W : World => ring_any 0 1 2 n V hV0 (by have := HN.out.1; omega) W)
      rw [hr3] at HRG
      clear hr hX hb hl hll hd hr1 hr2 hr3
      go_wp2_with fail
      (with_reducible refine (HQ.out _).mono ?_)
      rintro e w1 ⟨rfl, hb1⟩
      have B1 := Lib.hid hb1
      clear hb1
      go_wp2_with fail
      (with_reducible refine (HRG.out _).mono ?_)
      rintro e w2 ⟨rfl, hb2⟩
      have B2 := Lib.hid (B1.out.trans (hb2.mono B1.out.size))
      clear hb2 B1
      go_wp2_with fail
      (with_reducible refine (keepnum_any ((HI2.out.below HH.out.2.2.1).below B2.out) c j (by have := HN.out; omega) 1000 (by omega) (by omega)).mono ?_)
      rintro e w3 ⟨yv, hy1, rfl, nd, rfl⟩
      have B3 := Lib.hid (B2.out.trans ((below_drewN w2 nd).mono B2.out.size))
      generalize w2.drewN nd = W3 at *
      have hrow3 := HH.out.1.of_same (w' := W3) (B3.out.block g HH.out.1.lt)
      have hcx := hrow3.cell (i := 2 + r) (by have := HV.out.2.1; omega)
      have hfx := hrow3.free (2 + r)
      have hNX := Lib.hid (show ((2 + r : Nat) : Int) < (N3 : Int) from by have := HV.out.2.1; have := HN3.out; omega)
      have hix := hNX.out
      have hyw : IntKind.u64.wrap (yv : Int) = (yv : Int) := IntWalk.u64_in _ (by omega)
      have HR := Lib.hid (deqL_next HN.out.1 HN.out.2.2 HN.out.2.1 hlt HH.out.1 HH.out.2.1 HH.out.2.2.1 HH.out.2.2.2.1 HH.out.2.2.2.2.1 HH.out.2.2.2.2.2 HV.out.1 HV.out.2.1 HV.out.2.2 B3.out hy1 HG.out)
      clear hrow3 hNX
      go_wp2_with fail
      go_roundw
      case rel =>
        have := HR.out
        rw [show ((j + 1 : Nat) : Int) = (j : Int) + 1 by omega] at this
        exact this
      case measure => simp [intOf]; omega
    · obtain rfl : j = sz := by omega
      have HH := Lib.hid (And.intro hr (And.intro hX (And.intro hb (And.intro hl (And.intro hll hd)))))
      clear hr hX hb hl hll hd
      go_wp2
      go_ret
      obtain ⟨hr, hX, hb, hl, hll, hd⟩ := HH.out
      exact ⟨g, X, l, by rw [← HN3.out]; rfl, hr, hX, HG.out, hb, hl, hll, hd⟩
end Go.Proofs.Ytplifdmfoeejaaa
