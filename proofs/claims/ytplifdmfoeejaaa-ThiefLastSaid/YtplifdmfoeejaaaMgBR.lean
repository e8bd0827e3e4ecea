/-
  The keep's Deque once more, with what its entries meet; the keep's Number of a lone number, told.
  Slices of bools that a call reads.
-/
import Derived.Test.YtplifdmfoeejaaaDeq
import Derived.Test.YtplifdmfoeejaaaMgBQ
import Derived.Test.YtplifdmfoeejaaaMgAK
import Derived.Deep.Grids
namespace Go.Proofs.Ytplifdmfoeejaaa
open Go Go.RowKit Go.Shelf
set_option linter.unusedSimpArgs false
set_option linter.unusedVariables false

/-- The number at place k. -/
def numk (z : Int) (k L : Nat) (n : Int) : Int := drw (wrap64 (z.tdiv (1 + (k : Int) / (L : Int) % 7))) n
set_option maxHeartbeats 1000000 in
theorem keepnum_told {w : World} {a : Option Addr} {L : Nat} {zs : List Int} (h : InInts w a L zs) (c k : Nat) (hk : k ≤ 1000000) (hL : L ≠ 0) (n : Int) (hn : 1 ≤ n) (hn' : n ≤ 1000000) :
    Calls Try.prog 24 #[.slice a L c, .int .i64 k, .int .i64 n] w fun e w' => e = .returned (.int .i64 (numk (zs.getD (k % L) 0) k L n)) ∧ ∃ m, w' = w.drewN m := by
  have hmax := h.2.1
  unfold maxLen at hmax
  unfold numk
  have hL0 : ((L : Int) == 0) = false := by simp; omega
  have hL1 : (1 : Int) ≤ L := by omega
  have hm : k % L < L := Nat.mod_lt _ (by omega)
  obtain ⟨x, rfl, _, hc⟩ := h.2.2 (k % L) hm
  generalize zs.getD (k % L) 0 = z at hc ⊢
  clear h hL
  have hq := fun (d : Int) (u : World) => (rdraw_any d n (by omega) u).mono (fun e w' (h : e = .returned (.int .i64 (drw d n)) ∧ u = w') => (⟨h.1, h.2.symm⟩ : e = .returned (.int .i64 (drw d n)) ∧ w' = u))
  have hmi : (k : Int) % (L : Int) < (L : Int) := Int.emod_lt_of_pos _ (by omega)
  have hmi0 : 0 ≤ (k : Int) % (L : Int) := Int.emod_nonneg _ (by omega)
  have hd0 : 0 ≤ (k : Int) / (L : Int) := Int.ediv_nonneg (by omega) (by omega)
  have hd1 : (k : Int) / (L : Int) ≤ k := Int.ediv_le_self _ (by omega)
  have e0 : 0 ≤ (k : Int) / (L : Int) % 7 := Int.emod_nonneg _ (by omega)
  have e1 : (k : Int) / (L : Int) % 7 < 7 := Int.emod_lt_of_pos _ (by omega)
  obtain ⟨y, hy⟩ : ∃ y, drw (wrap64 (z.tdiv (1 + (k : Int) / (L : Int) % 7))) n = y := ⟨_, rfl⟩
  rw [hy]
  have HY := Lib.hid hy
  clear hy
  go_enter Try.func24, Try.ntmps24
  go_wp2_with fail
  go_quiet ((go_at_call 21; exact Calls.quiet_of_same (hq _ _)))
  rw [HY.out]
  go_wp2
  go_ret
  exact ⟨rfl, _, rfl⟩
/-- The number of a lone one. -/
def numl (z n : Int) : Int := numk z 0 1 n
theorem numl_in (z n : Int) (hn : 1 ≤ n) : 0 ≤ numl z n ∧ numl z n < n := drw_in _ n hn
theorem keepnum_lone {w : World} {a : Option Addr} {z : Int} (h : InInts w a 1 [z]) (c : Nat) (n : Int) (hn : 1 ≤ n) (hn' : n ≤ 1000000) :
    Calls Try.prog 24 #[.slice a 1 c, .int .i64 0, .int .i64 n] w fun e w' => e = .returned (.int .i64 (numl z n)) ∧ ∃ m, w' = w.drewN m := keepnum_told h c 0 (by omega) (by omega) n hn hn'
/-- A number that meets G, behind some draws. -/
def NumG (G : Int → Prop) (w : World) (e : Ending) (w' : World) : Prop := ∃ y : Nat, (y : Int) < 1000 ∧ G y ∧ e = .returned (.int .i64 y) ∧ ∃ m, w' = w.drewN m
/-- What Deque gives. -/
def DequeDG (G : Int → Prop) (n : Nat) (t sz : Nat) (w : World) (e : Ending) (w' : World) : Prop :=
  ∃ (g : Nat) (X l : List Int), e = .returned (.slice (some ⟨g, 0, none⟩) (n + 3 : Nat) (n + 3 : Nat)) ∧ Row w' g (n + 3) (n + 3) X ∧ (∀ x, x ∈ X → 0 ≤ x) ∧ w.heap.size ≤ g ∧ Below w.heap.size w w' ∧
    l.length = sz ∧ (∀ x, x ∈ l → G x) ∧ (t + sz < 18446744073709551616 → DqX X n t l ∧ X.getD 1 0 = ((t + sz : Nat) : Int))
/-- What its loop keeps. -/
def DeqLG (G : Int → Prop) (w : World) (n t sz g : Nat) (i : Value) (wr : World) : Prop :=
  ∃ (j : Nat) (X l : List Int), i = .int .i64 j ∧ j ≤ sz ∧ Row wr g (n + 3) (n + 3) X ∧ (∀ x, x ∈ X → 0 ≤ x) ∧ Below w.heap.size w wr ∧ l.length = j ∧ (∀ x, x ∈ l → G x) ∧ (t + sz < 18446744073709551616 → DqX X n t l ∧ X.getD 1 0 = ((t + sz : Nat) : Int))

theorem deqG_start (G : Int → Prop) (w : World) {n t sz : Nat} (hn : 1 ≤ n ∧ n ≤ 100) {U : Int} (h0 : 0 ≤ U) (hU : t + sz < 18446744073709551616 → U = ((t + sz : Nat) : Int)) :
    DeqLG G w n t sz w.heap.size (.int .i64 0) (((w.alloc (.cells (madeCells #[.int .u64 0] (n + 3)) 22)).setCell ⟨w.heap.size, 0, none⟩ (.int .u64 t)).setCell ⟨w.heap.size, 1, none⟩ (.int .u64 U)) := by
  have hr := ((made_row w (n + 3) (by omega)).put (i := 0) (t : Int)).put (i := 1) U
  have hb := ((below_one w (.cells (madeCells #[.int .u64 0] (n + 3)) 22)).setCell (p := ⟨w.heap.size, 0, none⟩) (Nat.le_refl _) (.int .u64 t)).setCell (p := ⟨w.heap.size, 1, none⟩) (Nat.le_refl _) (.int .u64 U)
  refine ⟨0, _, [], rfl, by omega, hr, set_nn (set_nn (by intro x hx; rw [List.eq_of_mem_replicate hx]; exact Int.le_refl 0) 0 (by omega)) 1 h0, hb, rfl, by simp, fun hlt => ⟨⟨?_, fun i hi => by simp at hi⟩, ?_⟩⟩
  · simp [List.replicate_succ]
  · rw [← hU hlt]
    simp [List.replicate_succ]
theorem deqG_next {G : Int → Prop} {w wr w3 : World} {n t sz g j r : Nat} {X l : List Int} {V : Int} {y : Nat} (hn : 1 ≤ n ∧ n ≤ 100) (hs : sz ≤ n) (ht : t < 18446744073709551616) (hj : j < sz) (hr : Row wr g (n + 3) (n + 3) X) (hX : ∀ x, x ∈ X → 0 ≤ x) (hb : Below w.heap.size w wr) (hl : l.length = j) (hll : ∀ x, x ∈ l → G x) (hd : t + sz < 18446744073709551616 → DqX X n t l ∧ X.getD 1 0 = ((t + sz : Nat) : Int))
    (hV : IntKind.u64.wrap ((t : Int) + (j : Int)) = V) (_ : r < n) (hr2 : (r : Int) = V % n) (h3 : Below wr.heap.size wr w3) (hy : G (y : Int)) (hy0 : (y : Int) < 1000) (hg : w.heap.size ≤ g) :
    DeqLG G w n t sz g (.int .i64 ((j + 1 : Nat) : Int)) (w3.setCell ⟨g, 2 + r, none⟩ (.int .u64 (y : Int))) := by
  have hr3 := (hr.of_same (w' := w3) (h3.block g hr.lt)).put (i := 2 + r) (y : Int)
  have hb3 := (hb.trans (h3.mono hb.size)).setCell (p := ⟨g, 2 + r, none⟩) hg (.int .u64 (y : Int))
  refine ⟨j + 1, _, l ++ [(y : Int)], rfl, by omega, hr3, set_nn hX _ (by omega), hb3, by simp [hl], fun x hx => ?_, fun hlt => ?_⟩
  · rcases List.mem_append.1 hx with h | h
    · exact hll x h
    · simp at h
      rw [h]
      exact hy
  · obtain ⟨h1, h2⟩ := hd hlt
    have hVV : V = ((t + j : Nat) : Int) := by
      rw [← hV, IntWalk.u64_in _ (by omega)]
      omega
    have er : r = (t + l.length) % n := by
      rw [hVV] at hr2
      rw [hl]
      omega
    refine ⟨?_, ?_⟩
    · rw [er]
      exact h1.put hr.len hn.1 (by omega) _
    · rw [List.getD_eq_getElem?_getD, List.getElem?_set_ne (by omega), ← List.getD_eq_getElem?_getD]
      exact h2

set_option maxRecDepth 100000 in
set_option maxHeartbeats 8000000 in
theorem dequeG_any {G : Int → Prop} {w : World} {a : Option Addr} {L : Nat} {zs : List Int} (h : InInts w a L zs) (c n t sz : Nat)
    (hnum : ∀ (W : World), InInts W a L zs → ∀ j : Nat, j < sz → Calls Try.prog 24 #[.slice a L c, .int .i64 j, .int .i64 1000] W (NumG G W)) (hn : 1 ≤ n ∧ n ≤ 100) (ht : t < 18446744073709551616) (hs : sz ≤ n) :
    Calls Try.prog 10 #[.int .i64 n, .int .u64 t, .int .i64 sz, .slice a L c] w (DequeDG G n t sz w) := by
  have hmk := fun (W : World) => run_make_row' (P := Try.prog) 31 22 (.int .u64 0) 8 Try.underlying31 info_u64 rfl .i64 .i64 (n + 3) (by omega) (by omega) W
  rw [show ((n + 3 : Nat) : Int) = (n : Int) + 3 by omega] at hmk
  have hrow := made_row w (n + 3) (by omega)
  have hb0 := below_one w (.cells (madeCells #[.int .u64 0] (n + 3)) 22)
  have HI2 := Lib.hid h
  have HNUM := Lib.hid hnum
  clear hnum
  obtain ⟨U, hU⟩ : ∃ U, IntKind.u64.wrap ((t : Int) + (sz : Int)) = U := ⟨_, rfl⟩
  have hUn : 0 ≤ U ∧ (t + sz < 18446744073709551616 → U = ((t + sz : Nat) : Int)) := by
    subst hU
    refine ⟨u64_nn _, fun h => ?_⟩
    rw [IntWalk.u64_in _ (by omega)]
    omega
  have HU := Lib.hid hUn
  have hc0 := hrow.cell (i := 0) (by omega)
  have hc1 := hrow.cell (i := 1) (by omega)
  have hf0 := hrow.free 0
  have hf1 := hrow.free 1
  have hX0 : ∀ i : Nat, (List.replicate (n + 3) (0 : Int)).getD i 0 = 0 := by
    intro i
    rw [List.getD_eq_getElem?_getD, List.getElem?_replicate]
    split <;> rfl
  rw [hX0] at hc0 hc1
  have i0 : (0 : Int) < ((n + 3 : Nat) : Int) := by omega
  have i1 : (1 : Int) < ((n + 3 : Nat) : Int) := by omega
  have HN := Lib.hid (And.intro hn (And.intro ht hs))
  have HST := Lib.hid (deqG_start G w hn hUn.1 hUn.2)
  clear h hrow hb0 hUn hX0
  generalize hN3 : n + 3 = N3 at *
  have HN3 := Lib.hid hN3
  go_enter Try.func10, Try.ntmps10
  go_upto_region 2 with fail
  generalize w.alloc (.cells (madeCells #[.int .u64 0] N3) 22) = W1 at *
  clear hmk
  go_wp2_with fail
  clear hc0 hc1 hf0 hf1
  generalize hg : w.heap.size = g at *
  have HG := Lib.hid (show w.heap.size ≤ g from Nat.le_of_eq hg)
  clear hg
  go_loopw [10] (fun i wr => DeqLG G w n t sz g i wr) (fun i _ => sz - (intOf i).toNat)
  case atStart => exact HST.out
  case round =>
    clear HST
    obtain ⟨j, X, l, rfl, hj, hr, hX, hb, hl, hll, hd⟩ := hrel
    by_cases hlt : j < sz
    · obtain ⟨V, hV⟩ : ∃ V, IntKind.u64.wrap ((t : Int) + (j : Int)) = V := ⟨_, rfl⟩
      obtain ⟨r, hr1, hr2, hr3⟩ := ring2 n HN.out.1 V
      have HV := Lib.hid (And.intro hV (And.intro hr1 hr2))
      have HH := Lib.hid (And.intro hr (And.intro hX (And.intro hb (And.intro hl (And.intro hll hd)))))
      have hV0 : 0 ≤ V := by rw [← hV]; exact u64_nn _
      have HQ := Lib.hid (fun W : World => queue_any (n : Int) W)
      have HRG := Lib.hid (fun W : World => ring_any 0 1 2 n V hV0 (by have := HN.out.1; omega) W)
      rw [hr3] at HRG
      clear hr hX hb hl hll hd hr1 hr2 hr3
      go_wp2_with fail
      (with_reducible refine (HQ.out _).mono ?_)
      rintro e w1 ⟨rfl, hb1⟩
      have B1 := Lib.hid hb1
      clear hb1
      go_wp2_with fail
      (with_reducible refine (HRG.out _).mono ?_)
      rintro e w2 ⟨rfl, hb2⟩
      have B2 := Lib.hid (B1.out.trans (hb2.mono B1.out.size))
      clear hb2 B1
      go_wp2_with fail
      (with_reducible refine (HNUM.out _ ((HI2.out.below HH.out.2.2.1).below B2.out) j hlt).mono ?_)
      rintro e w3 ⟨yv, hy0, hy1, rfl, nd, rfl⟩
      have B3 := Lib.hid (B2.out.trans ((below_drewN w2 nd).mono B2.out.size))
      generalize w2.drewN nd = W3 at *
      have hrow3 := HH.out.1.of_same (w' := W3) (B3.out.block g HH.out.1.lt)
      have hcx := hrow3.cell (i := 2 + r) (by have := HV.out.2.1; omega)
      have hfx := hrow3.free (2 + r)
      have hNX := Lib.hid (show ((2 + r : Nat) : Int) < (N3 : Int) from by have := HV.out.2.1; have := HN3.out; omega)
      have hix := hNX.out
      have hyw : IntKind.u64.wrap (yv : Int) = (yv : Int) := IntWalk.u64_in _ (by omega)
      have HR := Lib.hid (deqG_next HN.out.1 HN.out.2.2 HN.out.2.1 hlt HH.out.1 HH.out.2.1 HH.out.2.2.1 HH.out.2.2.2.1 HH.out.2.2.2.2.1 HH.out.2.2.2.2.2 HV.out.1 HV.out.2.1 HV.out.2.2 B3.out hy1 hy0 HG.out)
      clear hrow3 hNX
      go_wp2_with fail
      go_roundw
      case rel =>
        have := HR.out
        rw [show ((j + 1 : Nat) : Int) = (j : Int) + 1 by omega] at this
        exact this
      case measure => simp [intOf]; omega
    · obtain rfl : j = sz := by omega
      have HH := Lib.hid (And.intro hr (And.intro hX (And.intro hb (And.intro hl (And.intro hll hd)))))
      clear hr hX hb hl hll hd
      go_wp2
      go_ret
      obtain ⟨hr, hX, hb, hl, hll, hd⟩ := HH.out
      exact ⟨g, X, l, by rw [← HN3.out]; rfl, hr, hX, HG.out, hb, hl, hll, hd⟩
end Go.Proofs.Ytplifdmfoeejaaa

namespace Go.Proofs.Ytplifdmfoeejaaa
open Go Go.ChangeShapes Go.WideShapes Go.ChangeAt Go.RowKit

/-- The slice (a, n) reads as the truth values B. -/
def InBs (w : World) (a : Option Addr) (n : Nat) (B : Nat → Bool) : Prop :=
  n ≤ maxLen ∧ ∀ i, i < n → ∃ x : Addr, a = some x ∧ x.block < w.heap.size ∧ w.cell? (x.add i) = some (.bool (B i))
theorem InBs.below {w w' : World} {a : Option Addr} {n : Nat} {B : Nat → Bool} (h : InBs w a n B) (hb : Below w.heap.size w w') : InBs w' a n B :=
  ⟨h.1, fun i hi => by
    obtain ⟨x, e, hx, hc⟩ := h.2 i hi
    refine ⟨x, e, Nat.lt_of_lt_of_le hx hb.size, ?_⟩
    rw [hb.cell (by rw [show (x.add i).block = x.block by unfold Addr.add; split <;> rfl]; exact hx)]
    exact hc⟩
set_option maxRecDepth 100000 in
theorem open_bools {H : Type} {enc : TypeId × Value → H} {w : World} {base b0 : Nat} {held : Bool} {r : Reach} {v : Value} {d : DataW H} {p : List MemPlace}
    (hv : Value.okWide Try.prog w r b0 66 v) (h : DataW.Trod enc Try.prog w base (fun _ => true) held 66 v d p) :
    ∃ (a : Option Addr) (n c : Nat) (B : Nat → Bool), v = .slice a n c ∧ InBs w a n B := by
  obtain ⟨a, n, c, rfl⟩ := okWide_slice Try.underlying66 hv
  obtain ⟨fuel, hf⟩ := h
  rcases Go.Deep.open_bools Try.underlying66 Try.underlying4 (by kernel_rfl) hf with ⟨hcs, _⟩ | ⟨x, l, c', B, hcs, _, hl, hm, _, hcell⟩
  · simp [Value.cells] at hcs
    obtain ⟨rfl, rfl, rfl⟩ := hcs
    exact ⟨_, _, _, fun _ => false, rfl, by simp, fun i hi => absurd hi (by omega)⟩
  · simp [Value.cells] at hcs
    obtain ⟨rfl, rfl, rfl⟩ := hcs
    refine ⟨_, _, _, B, rfl, by omega, fun i hi => ⟨x, rfl, ?_, hcell i (by omega)⟩⟩
    have := World.block_lt_of_cell? w _ (hcell i (by omega))
    rwa [show (x.add i).block = x.block by unfold Addr.add; split <;> rfl] at this
end Go.Proofs.Ytplifdmfoeejaaa
