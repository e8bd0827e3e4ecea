/-
  Contract of the keep's Number.
  The keep's Number of one number.
  The walk of the statement BitmapSets: it returns true.
  Slices of uint64 and of int (with their ranges) that came in, opened.
-/
import Derived.Test.YtllllbepnnpeeaaGreatMgAH
import Derived.Test.YtllllbepnnpeeaaGreatMgBA
import Derived.Deep.QuietTactic
import Derived.BigQuiet
import Derived.Lib.Hide
import Derived.Test.YtllllbepnnpeeaaGreatMgAA
import Derived.Test.YtllllbepnnpeeaaGreatMatsetter
import Derived.Test.YtllllbepnnpeeaaGreatMgBJ
import Derived.Test.YtllllbepnnpeeaaGreatAw12
import Derived.Deep.Cut
import Derived.Deep.CutRange
import Derived.ChangeSlices
import Derived.Laws.IdiomArrays
namespace Go.Proofs.YtllllbepnnpeeaaGreat
open Go Go.RowKit

/-- A number from 0 to n - 1, behind some draws. -/
def NumR (n : Int) (w : World) (e : Ending) (w' : World) : Prop := ∃ y : Nat, (y : Int) < n ∧ e = .returned (.int .i64 y) ∧ ∃ m, w' = w.drewN m

set_option maxHeartbeats 1000000 in
theorem keepnum_any {w : World} {a : Option Addr} {L : Nat} {zs : List Int} (h : InInts w a L zs) (c k : Nat) (hk : k ≤ 1000000) (n : Int) (hn : 1 ≤ n) (hn' : n ≤ 1000000) :
    Calls Tryz.prog 10 #[.slice a L c, .int .i64 k, .int .i64 n] w (NumR n w) := by
  have hmax := h.2.1
  unfold maxLen at hmax
  by_cases hL : L = 0
  · subst hL
    clear h
    go_enter Tryz.func10, Tryz.ntmps10
    go_wp2
    go_ret
    exact ⟨0, by omega, rfl, 0, rfl⟩
  · have hL0 : ((L : Int) == 0) = false := by simp; omega
    have hL1 : (1 : Int) ≤ L := by omega
    have hm : k % L < L := Nat.mod_lt _ (by omega)
    obtain ⟨x, rfl, _, hc⟩ := h.2.2 (k % L) hm
    generalize zs.getD (k % L) 0 = z at hc
    clear h hL
    have hq := fun (d : Int) (u : World) => (rdraw_any d n (by omega) u).mono (fun e w' (h : e = .returned (.int .i64 (drw d n)) ∧ u = w') => (⟨h.1, h.2.symm⟩ : e = .returned (.int .i64 (drw d n)) ∧ w' = u))
    have hmi : (k : Int) % (L : Int) < (L : Int) := Int.emod_lt_of_pos _ (by omega)
    have hmi0 : 0 ≤ (k : Int) % (L : Int) := Int.emod_nonneg _ (by omega)
    have hd0 : 0 ≤ (k : Int) / (L : Int) := Int.ediv_nonneg (by omega) (by omega)
    have hd1 : (k : Int) / (L : Int) ≤ k := Int.ediv_le_self _ (by omega)
    have e0 : 0 ≤ (k : Int) / (L : Int) % 7 := Int.emod_nonneg _ (by omega)
    have e1 : (k : Int) / (L : Int) % 7 < 7 := Int.emod_lt_of_pos _ (by omega)
    go_enter Tryz.func10, Tryz.ntmps10
    go_wp2_with fail
    go_quiet ((go_at_call 24; exact Calls.quiet_of_same (hq _ _)))
    obtain ⟨g0, g1⟩ := drw_in (wrap64 (z.tdiv (1 + (k : Int) / (L : Int) % 7))) n hn
    generalize drw (wrap64 (z.tdiv (1 + (k : Int) / (L : Int) % 7))) n = y at *
    obtain ⟨y, rfl⟩ : ∃ u : Nat, y = (u : Int) := ⟨y.toNat, by omega⟩
    go_wp2
    go_ret
    exact ⟨y, g1, rfl, _, rfl⟩

end Go.Proofs.YtllllbepnnpeeaaGreat

namespace Go.Proofs.YtllllbepnnpeeaaGreat
open Go Go.RowKit

theorem ints_lone (w : World) (z : Int) : InInts (w.alloc (.cells #[.int .i64 z] 3)) (some ⟨w.heap.size, 0, none⟩) 1 [z] := by
  have hB := Blk.made w 3 #[.int .i64 z]
  refine ⟨rfl, by unfold maxLen; omega, fun i hi => ⟨_, rfl, hB.lt, ?_⟩⟩
  obtain rfl : i = 0 := by omega
  have e : (⟨w.heap.size, 0, none⟩ : Addr).add 0 = ⟨w.heap.size, 0, none⟩ := by unfold Addr.add; rfl
  rw [e, hB.at_]
  rfl
theorem keepnum0 {w : World} {a : Option Addr} {L : Nat} {zs : List Int} (h : InInts w a L zs) (c : Nat) (n : Int) (hn : 1 ≤ n) (hn' : n ≤ 1000000) :
    Calls Tryz.prog 10 #[.slice a L c, .int .i64 0, .int .i64 n] w (NumR n w) := keepnum_any h c 0 (by omega) n hn hn'
end Go.Proofs.YtllllbepnnpeeaaGreat

namespace Go.Proofs.YtllllbepnnpeeaaGreat
open Go Go.RowKit Go.Shelf
set_option linter.unusedSimpArgs false
set_option linter.unusedVariables false

/-- The comparison begins. -/
theorem ms_start_setter {W0 w w1 w2 : World} {p m k g n : Nat} {q ag acap : Nat} {s : St} {c b : Int} {x y gy cy : Nat} (hd : Duo w W0.heap.size p m k g n hd0 nilV nilV q (bareA ag acap) s s 0 0 [] [] [] []) (hn : s.N) (hc : 0 ≤ s.c ∧ s.c ≤ 1000) (hb : Below W0.heap.size W0 w)
    (h1 : Below w.heap.size w w1) (ho : LB w1 x 140 [.int .i64 c, .int .u64 (maskS b)] (fraS c b) 0 0) (hx : w.heap.size ≤ x) (h2 : Below w1.heap.size w1 w2) (hm : Mach1 w1.heap.size w2 y gy cy [] (fraS c b)) :
    MS W0 SetOk 3 140 W0.heap.size p m k g n hd0 nilV nilV q y gy cy [] 0 [] [] s (fraS c b) (bareA ag acap) 1000 0 x (lncells (fraS c b) 0 0 ++ ([.int .i64 c, .int .u64 (maskS b)] : List Value)).toArray w2 := by
  have s1 := hb.size
  have s2 := h1.size
  have hbm := hm.bm
  have hbg := hm.bg
  exact ⟨(hd.below h1).below h2, (ho.below h2).blk, ⟨hm.blk, hm.fr, by omega, by omega, hm.hc⟩, hn, setOk1 c b, rfl, hc, ⟨Int.le_refl _, Int.le_refl _⟩, hb.trans ((h1.trans (h2.mono s2)).mono s1), by omega, rfl⟩

set_option maxRecDepth 100000 in
set_option maxHeartbeats 16000000 in
theorem sets12_law {w : World} {ca : Option Addr} {cn : Nat} {cz : List Int} (cc : Nat) (ce bi : Int) (near : Bool) (hc : InW w ca cn cz ∧ ∀ x, x ∈ cz → 0 ≤ x) :
    Calls Tryz.prog 5 #[.slice ca cn cc, .int .i64 ce, .int .i64 bi, .bool near] w fun e w' => e = .returned (.bool true) ∧ Below w.heap.size w w' := by
  have hmc := hc.1.2.1
  unfold maxLen at hmc
  have HC := Lib.hid hc
  have HNL := Lib.hid (fun V : World => (show InInts V none 0 [] from ⟨rfl, by simp, fun i hi => absurd hi (by omega)⟩))
  clear hc
  by_cases h40 : 40 < cn
  · go_enter Tryz.func5, Tryz.ntmps5
    go_wp2
    go_ret
    exact ⟨rfl, Below.refl _ _⟩
  have h41 : decide (40 < (cn : Int)) = false := decide_eq_false (by omega)
  go_enter Tryz.func5, Tryz.ntmps5
  go_upto_if 15 with fail
  go_cut [1, 2] from 15 to 26 (fun v1 v2 wx => ∃ c b : Int, v1 = .int .i64 c ∧ v2 = .int .i64 b ∧ Below w.heap.size w wx)
  case first =>
    cases near with
    | false =>
      go_wp2_with fail
      go_meet
      case rel => exact ⟨ce, bi, rfl, rfl, Below.refl _ _⟩
    | true =>
      go_wp2_with fail
      have I0 := Lib.hid (ints_lone w ce)
      have hb0 := below_one w (.cells #[.int .i64 ce] 3)
      (with_reducible refine (keepnum0 I0.out 1 ((cn : Int) + 2) (by omega) (by omega)).mono ?_)
      rintro e u0 ⟨y0, hy0, rfl, nd0, rfl⟩
      have B1 := Lib.hid (hb0.trans ((below_drewN (w.alloc (.cells #[.int .i64 ce] 3)) nd0).mono hb0.size))
      clear I0 hb0
      generalize (w.alloc (.cells #[.int .i64 ce] 3)).drewN nd0 = V1 at *
      go_wp2_with fail
      have I1 := Lib.hid (ints_lone V1 bi)
      have hb1 := below_one V1 (.cells #[.int .i64 bi] 3)
      (with_reducible refine (keepnum0 I1.out 1 66 (by omega) (by omega)).mono ?_)
      rintro e u1 ⟨y1, hy1, rfl, nd1, rfl⟩
      have B2 := Lib.hid (B1.out.trans ((hb1.trans ((below_drewN (V1.alloc (.cells #[.int .i64 bi] 3)) nd1).mono hb1.size)).mono B1.out.size))
      clear I1 hb1 B1
      generalize (V1.alloc (.cells #[.int .i64 bi] 3)).drewN nd1 = V2 at *
      go_wp2_with fail
      go_meet
      case rel => exact ⟨_, _, rfl, rfl, B2.out⟩
  case rest =>
  obtain ⟨c, b, rfl, rfl, hb3⟩ := hcut
  have B3 := Lib.hid hb3
  clear hb3
  generalize wc = W3 at *
  go_wp2_with fail
  (with_reducible refine (mbare_any (HC.out.1.below B3.out) cc (by omega)).mono ?_)
  rintro e w5 ⟨p, m, k, g, q, ag, acap, s, rfl, hd, hsX, hsc, hb5⟩
  have D5 := Lib.hid hd
  have S5 := Lib.hid (And.intro (Row.inNN HC.out.2 hsX) (show 0 ≤ s.c ∧ s.c ≤ 1000 by omega))
  have B5 := Lib.hid hb5
  clear hd hsX hsc hb5
  go_wp2_with fail
  (with_reducible refine (awake12_any _).mono ?_)
  rintro e w6 ⟨rfl, hb6⟩
  have D6 := Lib.hid (D5.out.below hb6)
  have B6 := Lib.hid (B5.out.trans (hb6.mono B5.out.size))
  clear hb6 D5 B5
  go_wp2_with fail
  (with_reducible refine (bSet_any c b _).mono ?_)
  rintro e w7 ⟨x, rfl, ho, hx, hb7⟩
  have O7 := Lib.hid (And.intro ho (And.intro hx hb7))
  clear ho hx hb7
  go_wp2_with fail
  have hmk := fun V => make_any { fraS c b with ln := 0 } V rfl
  (with_reducible refine (hmk _).mono ?_)
  rintro e w8 ⟨y, gy, cy, rfl, hm, hb8⟩
  have M8 := Lib.hid (ms_start_setter D6.out S5.out.1 S5.out.2 B6.out O7.out.2.2 O7.out.1 O7.out.2.1 hb8 hm)
  clear hm hb8 O7 D6 B6 hmk
  go_wp2_with fail
  (with_reducible refine (match_setter M8.out (by omega) (by omega) (by simp) (HNL.out W3)).mono ?_)
  rintro e w9 ⟨rfl, hb9⟩
  go_wp2
  go_ret
  exact ⟨rfl, B3.out.trans (hb9.mono B3.out.size)⟩
end Go.Proofs.YtllllbepnnpeeaaGreat

namespace Go.Proofs.YtllllbepnnpeeaaGreat
open Go Go.ChangeShapes Go.WideShapes Go.ChangeAt Go.RowKit

set_option maxRecDepth 100000 in
theorem open_wordsW {H : Type} {enc : TypeId × Value → H} {w : World} {base b0 : Nat} {spare : Nat → Bool} {held : Bool} {r : Reach} {v : Value} {d : DataW H} {p : List MemPlace}
    (hv : Value.okWide Tryz.prog w r b0 40 v) (h : DataW.Trod enc Tryz.prog w base spare held 40 v d p) :
    ∃ (a : Option Addr) (n c : Nat) (zs : List Int), v = .slice a n c ∧ (InW w a n zs ∧ ∀ x, x ∈ zs → 0 ≤ x) := by
  obtain ⟨a, n, c, rfl⟩ := okWide_slice Tryz.underlying40 hv
  obtain ⟨fuel, hf⟩ := h
  rcases open_ints Tryz.underlying40 Tryz.underlying53 (by kernel_rfl) hf with ⟨hcs, _⟩ | ⟨x, l, c', zs, hcs, _, hl, hm, hz, _, hcell, hwf⟩
  · simp [Value.cells] at hcs
    obtain ⟨rfl, rfl, rfl⟩ := hcs
    exact ⟨_, _, _, [], rfl, ⟨rfl, by simp, fun i hi => absurd hi (by omega)⟩, by simp⟩
  · simp [Value.cells] at hcs
    obtain ⟨rfl, rfl, rfl⟩ := hcs
    have hnz : n ≤ zs.length := by rw [hz]; split <;> omega
    refine ⟨_, _, _, zs.take n, rfl, ⟨by simp; omega, by omega, fun i hi => ⟨x, rfl, ?_, ?_⟩⟩, fun y hy => ?_⟩
    · have := World.block_lt_of_cell? w _ (hcell i (by omega))
      rwa [show (x.add i).block = x.block by unfold Addr.add; split <;> rfl] at this
    · rw [hcell i (by omega), List.getD_eq_getElem?_getD, List.getD_eq_getElem?_getD, List.getElem?_take, if_pos hi]
    · have := hwf y (List.mem_of_mem_take hy)
      simp only [Lit.wf, Bool.and_eq_true, decide_eq_true_eq] at this
      have h0 : IntKind.u64.min = 0 := rfl
      rw [h0] at this
      exact this.1

set_option maxRecDepth 100000 in
theorem open_intsR {H : Type} {enc : TypeId × Value → H} {w : World} {base b0 : Nat} {spare : Nat → Bool} {held : Bool} {r : Reach} {v : Value} {d : DataW H} {p : List MemPlace}
    (hv : Value.okWide Tryz.prog w r b0 23 v) (h : DataW.Trod enc Tryz.prog w base spare held 23 v d p) :
    ∃ (a : Option Addr) (n c : Nat) (zs : List Int), v = .slice a n c ∧ (InInts w a n zs ∧ ∀ x, x ∈ zs → -9223372036854775808 ≤ x ∧ x ≤ 9223372036854775807) := by
  obtain ⟨a, n, c, rfl⟩ := okWide_slice Tryz.underlying23 hv
  obtain ⟨fuel, hf⟩ := h
  rcases open_ints Tryz.underlying23 Tryz.underlying3 (by kernel_rfl) hf with ⟨hcs, _⟩ | ⟨x, l, c', zs, hcs, _, hl, hm, hz, _, hcell, hwf⟩
  · simp [Value.cells] at hcs
    obtain ⟨rfl, rfl, rfl⟩ := hcs
    exact ⟨_, _, _, [], rfl, ⟨rfl, by simp, fun i hi => absurd hi (by omega)⟩, by simp⟩
  · simp [Value.cells] at hcs
    obtain ⟨rfl, rfl, rfl⟩ := hcs
    have hnz : n ≤ zs.length := by rw [hz]; split <;> omega
    refine ⟨_, _, _, zs.take n, rfl, ⟨by simp; omega, by omega, fun i hi => ⟨x, rfl, ?_, ?_⟩⟩, fun y hy => ?_⟩
    · have := World.block_lt_of_cell? w _ (hcell i (by omega))
      rwa [show (x.add i).block = x.block by unfold Addr.add; split <;> rfl] at this
    · rw [hcell i (by omega), List.getD_eq_getElem?_getD, List.getD_eq_getElem?_getD, List.getElem?_take, if_pos hi]
    · exact i64_in (hwf y (List.mem_of_mem_take hy))
end Go.Proofs.YtllllbepnnpeeaaGreat
