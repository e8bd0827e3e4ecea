/-
  The program's package order: the order of keys, whether there is room, the least key.
-/
import Derived.Test.YtpmdmeolehabjaaOrdM
import Derived.Test.YtpmdmeolehabjaaGro
import Derived.Test.YtpmdmeolehabjaaCfBase
import Derived.LoopTactic
import Derived.Deep.Cut
import Derived.Deep.CutRange
import Derived.BigQuiet
import Derived.BigRegion
import Derived.WalkSpells
import Derived.OwnWalk
import Derived.StillTailTactics
namespace Go.Proofs.Ytpmdmeolehabjaa
open Go Go.RowKit
set_option linter.unusedSimpArgs false
set_option linter.unusedVariables false

theorem before_any (x y : KO) (w : World) :
    Calls Try.prog 42 #[.agg (kcells x).toArray, .agg (kcells y).toArray] w fun e w' => e = .returned (.bool (ltO x y)) ∧ Below w.heap.size w w' := by
  have hb1 := below_one w (.cells (kcells x).toArray 72)
  have hb2 := hb1.alloc (by simp) (.cells (kcells y).toArray 72)
  have HB := Lib.hid hb2
  have X1 := (Blk.made w 72 (kcells x).toArray).alloc (.cells (kcells y).toArray 72)
  have Y1 := Blk.made (w.alloc (.cells (kcells x).toArray 72)) 72 (kcells y).toArray
  have x0 := X1.at_ 0
  have x1 := X1.at_ 1
  have y0 := Y1.at_ 0
  have y1 := Y1.at_ 1
  clear hb1 hb2 X1 Y1
  by_cases h : x.d = y.d
  · have h' : (x.d != y.d) = false := by simp [h]
    have hR : ltO x y = decide (x.a < y.a) := by simp [ltO, h]
    rw [hR]
    clear hR
    have H := Lib.hid h
    clear h
    go_enter Try.func42, Try.ntmps42
    go_wp2
    go_ret
    exact ⟨rfl, HB.out⟩
  · have h' : (x.d != y.d) = true := by simp [h]
    have hR : ltO x y = decide (x.d < y.d) := by simp [ltO, h]
    rw [hR]
    clear hR
    have H := Lib.hid h
    clear h
    go_enter Try.func42, Try.ntmps42
    go_wp2
    go_ret
    exact ⟨rfl, HB.out⟩

/-- Block x, from B on, is the content c; v is its slice of keys. -/
structure CT (w : World) (B x : Nat) (v : Value) (c : Con) : Prop where
  blk : Blk w x 58 #[v, .int .i64 c.n]
  own : OwnG w B 72 3 v (c.ks.map kcells)
  hx : B ≤ x
theorem CT.below {w w' : World} {B x : Nat} {v : Value} {c : Con} (h : CT w B x v c) (hb : Below w.heap.size w w') : CT w' B x v c := ⟨h.blk.below hb, h.own.below hb, h.hx⟩
theorem CT.fr {w w' : World} {B x : Nat} {v : Value} {c : Con} {S : List Nat} (h : CT w B x v c) (hf : Fr S w w') (h1 : x ∉ S) (h2 : ∀ k, v.ownBlock = some k → k ∉ S) : CT w' B x v c :=
  ⟨h.blk.of_same (hf.block x h.blk.lt h1), h.own.same (fun b hb => hf.block b (h.own.lt b hb).2 (h2 b hb)), h.hx⟩
/-- The slice's form. -/
theorem CT.form {w : World} {B x : Nat} {v : Value} {c : Con} (h : CT w B x v c) : ∃ a cap, v = .slice a c.ks.length cap ∧ c.ks.length ≤ cap ∧ ∀ i, i < c.ks.length → ∃ g, a = some ⟨g, 0, none⟩ ∧ w.cell? ⟨g, i * 3, none⟩ = some (.int .i64 (c.ks.getD i zk).d) ∧ w.cell? ⟨g, i * 3 + 1, none⟩ = some (.int .i64 (c.ks.getD i zk).a) ∧ w.cell? ⟨g, i * 3 + 2, none⟩ = some (.int .i64 (c.ks.getD i zk).t) := by
  obtain ⟨a, cap, e, hc, hI⟩ := h.own.inG
  rw [List.length_map] at e hc
  refine ⟨a, cap, e, hc, fun i hi => ?_⟩
  obtain ⟨y, hy, _, hcell⟩ := hI.2.2 i (by rw [List.length_map]; exact hi)
  obtain ⟨g, cap2, cur, e2, _⟩ := h.own.blk (by intro e0; rw [List.map_eq_nil_iff] at e0; rw [e0] at hi; exact absurd hi (by simp))
  rw [e] at e2
  simp only [Value.slice.injEq] at e2
  have ea : a = some ⟨g, 0, none⟩ := e2.1
  subst ea
  simp only [Option.some.injEq] at hy
  subst hy
  have hrow : ((c.ks.map kcells).getD i []) = kcells (c.ks.getD i zk) := by
    rw [List.getD_eq_getElem?_getD, List.getElem?_map, List.getElem?_eq_getElem hi, List.getD_eq_getElem?_getD, List.getElem?_eq_getElem hi]
    rfl
  have ad : ∀ j, (⟨g, 0, none⟩ : Addr).add j = ⟨g, j, none⟩ := fun j => by
    unfold Addr.add
    split
    · rename_i h0
      rw [h0]
    · simp
  have h0 := hcell 0 (by omega)
  have h1 := hcell 1 (by omega)
  have h2 := hcell 2 (by omega)
  rw [hrow, ad] at h0 h1 h2
  exact ⟨g, rfl, h0, h1, h2⟩

theorem full_any {w : World} {B x : Nat} {v : Value} {k : Con} (h : CT w B x v k) (c : Cfg) (pa : Option Addr) (pn pc : Nat) (sa : Option Addr) (sn sc : Nat) :
    Calls Try.prog 41 #[.pointer (some ⟨x, 0, none⟩), cv c pa pn pc sa sn sc] w fun e w' => e = .returned (.bool ((k.ks.length : Int) == c.he)) ∧ Below w.heap.size w w' := by
  obtain ⟨a, cap, rfl, hc, _⟩ := h.form
  have HB := Lib.hid (below_one w (.cells (cc c pa pn pc sa sn sc) 25))
  have x0 := (h.blk.alloc (.cells (cc c pa pn pc sa sn sc) 25)).at_ 0
  have c5 := (Blk.made w 25 (cc c pa pn pc sa sn sc)).at_ 5
  clear h
  go_enter Try.func41, Try.ntmps41
  go_upto_region 1 with fail
  generalize w.alloc (.cells (cc c pa pn pc sa sn sc) 25) = W at *
  go_quiet (fail)
  go_wp2
  go_ret
  exact ⟨rfl, HB.out.trans ((below_drewN _ _).mono HB.out.size)⟩
set_option maxHeartbeats 2000000 in
theorem lstO_any {w : World} {B x : Nat} {v : Value} {k : Con} (h : CT w B x v k) (hm : k.ks.length ≤ 1000) :
    Calls Try.prog 32 #[.pointer (some ⟨x, 0, none⟩)] w fun e w' => e = .returned (.int .i64 (lstO k.ks)) ∧ Below w.heap.size w w' := by
  obtain ⟨a, cap, rfl, hc, hcell⟩ := h.form
  have x0 := h.blk.at_ 0
  have H := Lib.hid h
  have HC := Lib.hid hcell
  have hx := h.blk.lt
  obtain ⟨n, hn⟩ : ∃ n, k.ks.length = n := ⟨_, rfl⟩
  have HN := Lib.hid hn
  rw [hn] at x0 hc hm
  unfold lstO
  rw [hn]
  clear h hcell hn
  go_enter Try.func32, Try.ntmps32
  go_wp2_with fail
  go_loopw [3, 11] (fun v3 v11 wr => ∃ m : Nat, v11 = .int .i64 m ∧ m ≤ n ∧ v3 = .int .i64 (leastO k.ks m) ∧ Below w.heap.size w wr) (fun _ v _ => n - (intOf v).toNat)
  case atStart => exact ⟨0, rfl, Nat.zero_le _, rfl, Below.refl _ _⟩
  case round =>
    obtain ⟨m, rfl, hmn, rfl, hb⟩ := hrel
    have HB := Lib.hid hb
    clear hb
    by_cases hlt : m < n
    · have hk := HN.out
      obtain ⟨g, rfl, c0, c1, c2⟩ := HC.out m (by omega)
      obtain ⟨g', e', l0, l1, l2⟩ := HC.out (leastO k.ks m) (by have := leastO_le k.ks m; omega)
      simp only [Option.some.injEq, Addr.mk.injEq, and_true] at e'
      subst e'
      have hl := leastO_le k.ks m
      have hS := Lib.hid (show leastO k.ks (m + 1) = if ltO (k.ks.getD m zk) (k.ks.getD (leastO k.ks m) zk) = true then m else leastO k.ks m from rfl)
      obtain ⟨j, hj⟩ : ∃ j, leastO k.ks m = j := ⟨_, rfl⟩
      rw [hj] at hS l0 l1 l2 hl ⊢
      clear hj
      generalize hU : k.ks.getD m zk = U at *
      generalize hV : k.ks.getD j zk = V at *
      clear hU hV hk
      have cx : wr.cell? ⟨x, 0, none⟩ = some (.slice (some ⟨g, 0, none⟩) n cap) := (HB.out.cell hx).trans x0
      have gl : g < w.heap.size := World.block_lt_of_cell? _ _ c0
      have d0 := (HB.out.cell (p := ⟨g, m * 3, none⟩) gl).trans c0
      have d1 := (HB.out.cell (p := ⟨g, m * 3 + 1, none⟩) gl).trans c1
      have d2 := (HB.out.cell (p := ⟨g, m * 3 + 2, none⟩) gl).trans c2
      have e0 := (HB.out.cell (p := ⟨g, j * 3, none⟩) gl).trans l0
      have e1 := (HB.out.cell (p := ⟨g, j * 3 + 1, none⟩) gl).trans l1
      have e2 := (HB.out.cell (p := ⟨g, j * 3 + 2, none⟩) gl).trans l2
      clear c0 c1 c2 l0 l1 l2
      have N1 := Lib.hid (Blk.made wr 72 (kcells U).toArray)
      have HB1 := Lib.hid (HB.out.trans ((below_one wr (.cells (kcells U).toArray 72)).mono HB.out.size))
      have hb1 := bcell (below_one wr (.cells (kcells U).toArray 72))
      have glr : g < wr.heap.size := World.block_lt_of_cell? _ _ d0
      have xlr : x < wr.heap.size := World.block_lt_of_cell? _ _ cx
      have cx' := (hb1.1 x 0 xlr).trans cx
      have e0' := (hb1.1 g (j * 3) glr).trans e0
      have e1' := (hb1.1 g (j * 3 + 1) glr).trans e1
      have e2' := (hb1.1 g (j * 3 + 2) glr).trans e2
      clear cx e0 e1 e2 hb1
      have HJ := Lib.hid (show j < n by omega)
      have j0 : (0 : Int) ≤ (j : Int) := by omega
      have j1 : (j : Int) < (n : Int) := by omega
      go_upto_region 5 with fail
      generalize hW : wr.alloc (.cells (kcells U).toArray 72) = W at *
      have y0 := N1.out.at_ 0
      have y1 := N1.out.at_ 1
      have y2 := N1.out.at_ 2
      clear d0 d1 d2
      go_wp2_with fail
      go_still_tail 8, (by kernel_rfl)
      change wpList _ _ _ _ _ W.drew
      have HB2 := Lib.hid (below_drew HB1.out)
      generalize W.drew = W2 at *
      go_wp2_with fail
      (with_reducible refine (before_any U V W2).mono ?_)
      rintro e W3 ⟨rfl, hb3⟩
      have HB3 := Lib.hid (HB2.out.trans (hb3.mono HB2.out.size))
      clear hb3
      cases hlt2 : ltO U V with
      | true =>
        have hs := hS.out
        rw [hlt2, if_pos rfl] at hs
        have HS := Lib.hid hs
        clear hs hS
        go_wp2
        go_roundw
        all_goals first
          | exact ⟨m + 1, by push_cast; rfl, by omega, by rw [HS.out], HB3.out⟩
          | (simp only [intOf]; omega)
          | trace_state
      | false =>
        have hs := hS.out
        rw [hlt2, if_neg (by decide)] at hs
        have HS := Lib.hid hs
        clear hs hS
        go_wp2
        go_roundw
        all_goals first
          | exact ⟨m + 1, by push_cast; rfl, by omega, by rw [HS.out], HB3.out⟩
          | (simp only [intOf]; omega)
          | trace_state
    · have hmn2 : m = n := by omega
      subst hmn2
      go_wp2
      go_ret
      exact ⟨rfl, HB.out⟩
end Go.Proofs.Ytpmdmeolehabjaa
