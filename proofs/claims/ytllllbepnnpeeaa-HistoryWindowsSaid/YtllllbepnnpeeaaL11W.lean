/-
  The walk of the statement HistoryWindows: it returns true. (Written by wip/gen_l11w.py.)
-/
import Derived.Test.YtllllbepnnpeeaaMgBS
import Derived.Test.YtllllbepnnpeeaaRLin
import Derived.Test.YtllllbepnnpeeaaInU
import Derived.LoopTactic
import Derived.OwnWalk
import Derived.Deep.Cut
import Derived.Deep.CutRange
namespace Go.Proofs.Ytllllbepnnpeeaa
open Go Go.RowKit Go.Shelf
set_option linter.unusedSimpArgs false
set_option linter.unusedVariables false

/-- An operation whose numbers are small. -/
def SmO (o : OpR) : Prop := (o.v = 0 ∨ o.v = 1) ∧ o.a ≤ 5
theorem smo_lin {r : List OpR} (h : ∀ o, o ∈ r → SmO o) : ∀ o, o ∈ r → (Lit.int .i64 o.v).wf = true ∧ o.a ≤ 9223372036854775807 := by
  intro o ho
  obtain ⟨h1, h2⟩ := h o ho
  refine ⟨?_, by omega⟩
  rcases h1 with e | e <;> rw [e] <;> decide
theorem smo_snoc {r : List OpR} {o : OpR} (h : ∀ x, x ∈ r → SmO x) (ho : SmO o) : ∀ x, x ∈ r ++ [o] → SmO x := fun x hx => by
  rcases List.mem_append.1 hx with hx | hx
  · exact h x hx
  · rw [List.mem_singleton.1 hx]; exact ho
/-- What the loop keeps. -/
def WinR (w : World) (n : Nat) (iv xv : Value) (wr : World) : Prop := ∃ (i : Nat) (r : List OpR), i ≤ n ∧ iv = .int .i64 i ∧ Hid (OwnG wr w.heap.size 28 6 xv (r.map opL)) ∧ Hid (r.length = i ∧ ∀ o, o ∈ r → SmO o) ∧ Hid (Below w.heap.size w wr)
/-- One of three rows. -/
theorem pick3 {W : World} {a0 a1 a2 b : Nat} {v0 v1 v2 v3 v4 v5 : Int} (h0 : Blk W a0 3 #[.int .i64 v0, .int .i64 v1]) (h1 : Blk W a1 3 #[.int .i64 v2, .int .i64 v3]) (h2 : Blk W a2 3 #[.int .i64 v4, .int .i64 v5])
    (hb : Blk W b 24 #[.slice (some ⟨a0, 0, none⟩) 2 2, .slice (some ⟨a1, 0, none⟩) 2 2, .slice (some ⟨a2, 0, none⟩) 2 2]) {k g : Nat} (hk : k < 3) (hg : g < 2) :
    ∃ (a : Nat) (c : Int), W.cell? ⟨b, k, none⟩ = some (.slice (some ⟨a, 0, none⟩) 2 2) ∧ W.cell? ⟨a, g, none⟩ = some (.int .i64 c) := by
  obtain rfl | rfl | rfl : k = 0 ∨ k = 1 ∨ k = 2 := by omega
  · obtain rfl | rfl : g = 0 ∨ g = 1 := by omega
    · exact ⟨a0, v0, hb.at_ 0, h0.at_ 0⟩
    · exact ⟨a0, v1, hb.at_ 0, h0.at_ 1⟩
  · obtain rfl | rfl : g = 0 ∨ g = 1 := by omega
    · exact ⟨a1, v2, hb.at_ 1, h1.at_ 0⟩
    · exact ⟨a1, v3, hb.at_ 1, h1.at_ 1⟩
  · obtain rfl | rfl : g = 0 ∨ g = 1 := by omega
    · exact ⟨a2, v4, hb.at_ 2, h2.at_ 0⟩
    · exact ⟨a2, v5, hb.at_ 2, h2.at_ 1⟩
set_option maxRecDepth 100000 in
set_option maxHeartbeats 16000000 in
theorem windows_law {w : World} {la : Option Addr} {n : Nat} {zs : List Int} (lc : Nat) (ca : Int) (hl : InU w la n zs) :
    Calls Try.prog 3 #[.slice la n lc, .int .i64 ca] w fun e w' => e = .returned (.bool true) ∧ Below w.heap.size w w' := by
  have hml := hl.2.1
  unfold maxLen at hml
  have HL := Lib.hid hl
  clear hl
  by_cases h7 : 7 < n
  · have h7b : (7 : Int) < (n : Int) := by omega
    go_enter Try.func3, Try.ntmps3
    go_wp2
    go_ret
    exact ⟨rfl, Below.refl _ _⟩
  have h7b : decide ((7 : Int) < (n : Int)) = false := decide_eq_false (by omega)
  have H7 := Lib.hid (show n ≤ 7 by omega)
  go_enter Try.func3, Try.ntmps3
  go_wp2_with fail
  have I0 := Lib.hid (ints_lone w ca)
  have hb0 := below_one w (.cells #[.int .i64 ca] 3)
  (with_reducible refine (keepnum0 I0.out 1 4 (by omega) (by omega)).mono ?_)
  rintro e u0 ⟨y, hy, rfl, nd0, rfl⟩
  have B1 := Lib.hid (hb0.trans ((below_drewN (w.alloc (.cells #[.int .i64 ca] 3)) nd0).mono hb0.size))
  clear I0 hb0
  generalize (w.alloc (.cells #[.int .i64 ca] 3)).drewN nd0 = W1 at *
  go_wp2_with fail
  go_loopw [6, 5] (fun iv xv wr => WinR w n iv xv wr) (fun iv _ _ => n - (intOf iv).toNat)
  case atStart => exact ⟨0, [], by omega, rfl, Lib.hid (OwnG.nil _ _ _ _), Lib.hid ⟨rfl, fun o ho => by cases ho⟩, B1⟩
  case round =>
    clear B1
    obtain ⟨i, r, hi, rfl, HO, HR, HB⟩ := hrel
    by_cases hlt : i < n
    case neg =>
      obtain rfl : i = n := by omega
      obtain ⟨xa, xc, hxe, hxc, hxi⟩ := HO.out.inG
      rw [List.length_map, HR.out.1] at hxe
      have HX := Lib.hid hxi
      subst hxe
      clear hxi HO
      go_wp2_with fail
      (with_reducible refine (awake11_any _).mono ?_)
      rintro e w5 ⟨rfl, hb5⟩
      have B5 := Lib.hid (HB.out.trans (hb5.mono HB.out.size))
      have I5 := Lib.hid (show InOp w5 xa r from HX.out.below hb5)
      clear hb5 HX
      have HLN := Lib.hid (fun W (h : InOp W xa r) => linear_any (w := W) (c := xc) (y : Int) h HR.out.1 (smo_lin HR.out.2))
      have HRL := Lib.hid (fun W (h : InOp W xa r) => rlinear_any (w := W) (c := xc) (y : Int) h HR.out.1)
      go_wp2_with fail
      (with_reducible refine (HLN.out _ I5.out).mono ?_)
      rintro e w6 ⟨b1, rfl, h1, hb6⟩
      have B6 := Lib.hid (B5.out.trans (hb6.mono B5.out.size))
      have I6 := Lib.hid (show InOp w6 xa r from I5.out.below hb6)
      have H1 := Lib.hid h1
      clear h1 hb6
      go_wp2_with fail
      (with_reducible refine (HRL.out _ I6.out).mono ?_)
      rintro e w7 ⟨b2, rfl, h2, hb7⟩
      have B7 := Lib.hid (B6.out.trans (hb7.mono B6.out.size))
      obtain rfl : b1 = b2 := Bool.eq_iff_iff.2 (H1.out.trans h2.symm)
      clear h2 hb7
      cases b1 with
      | true =>
        go_wp2
        go_ret
        exact ⟨rfl, B7.out⟩
      | false =>
        go_wp2
        go_ret
        exact ⟨rfl, B7.out⟩
    have hlt2 : (i : Int) < (n : Int) := by omega
    have hi0 : (0 : Int) ≤ (i : Int) := by omega
    obtain ⟨x, rfl, hxb, hcw, hz0, hz1⟩ := HL.out.2.2 i hlt
    obtain ⟨z, hz⟩ : ∃ z, zs.getD i 0 = z := ⟨_, rfl⟩
    rw [hz] at hcw hz0 hz1
    have HXC := Lib.hid (show ∀ W, Below wr.heap.size wr W → W.cell? (x.add i) = some (.int .u32 z) from fun W hb => (hb.cell (by rw [show (x.add i).block = x.block by unfold Addr.add; split <;> rfl]; exact Nat.lt_of_lt_of_le hxb HB.out.size)).trans ((HB.out.cell (by rw [show (x.add i).block = x.block by unfold Addr.add; split <;> rfl]; exact hxb)).trans hcw))
    clear hz hxb hcw
    obtain ⟨k, hk, hk3⟩ : ∃ k : Nat, z % 3 = (k : Int) ∧ k < 3 := ⟨(z % 3).toNat, by omega, by omega⟩
    obtain ⟨f, hf, hf6⟩ : ∃ f : Nat, z / 3 % 6 = (f : Int) ∧ f < 6 := ⟨(z / 3 % 6).toNat, by omega, by omega⟩
    obtain ⟨u, hu, hu2⟩ : ∃ u : Nat, z / 18 % 2 = (u : Int) ∧ u < 2 := ⟨(z / 18 % 2).toNat, by omega, by omega⟩
    obtain ⟨t, ht, ht4⟩ : ∃ t : Nat, z / 36 % 4 = (t : Int) ∧ t < 4 := ⟨(z / 36 % 4).toNat, by omega, by omega⟩
    obtain ⟨g, hg, hg2⟩ : ∃ g : Nat, z / 144 % 2 = (g : Int) ∧ g < 2 := ⟨(z / 144 % 2).toNat, by omega, by omega⟩
    have HRK := Lib.hid (And.intro hk3 (And.intro hf6 (And.intro hu2 (And.intro ht4 hg2))))
    go_wp2_with fail
    obtain ⟨d1, hd1⟩ : ∃ d : Nat, z.tdiv 3 = (d : Int) := ⟨(z / 3).toNat, by rw [Int.tdiv_eq_ediv_of_nonneg hz0]; omega⟩
    obtain ⟨d2, hd2⟩ : ∃ d : Nat, z.tdiv 18 = (d : Int) := ⟨(z / 18).toNat, by rw [Int.tdiv_eq_ediv_of_nonneg hz0]; omega⟩
    obtain ⟨d3, hd3⟩ : ∃ d : Nat, z.tdiv 36 = (d : Int) := ⟨(z / 36).toNat, by rw [Int.tdiv_eq_ediv_of_nonneg hz0]; omega⟩
    obtain ⟨d4, hd4⟩ : ∃ d : Nat, z.tdiv 144 = (d : Int) := ⟨(z / 144).toNat, by rw [Int.tdiv_eq_ediv_of_nonneg hz0]; omega⟩
    have e3 : z / 3 = (d1 : Int) := by rw [← hd1, Int.tdiv_eq_ediv_of_nonneg hz0]
    have e18 : z / 18 = (d2 : Int) := by rw [← hd2, Int.tdiv_eq_ediv_of_nonneg hz0]
    have e36 : z / 36 = (d3 : Int) := by rw [← hd3, Int.tdiv_eq_ediv_of_nonneg hz0]
    have e144 : z / 144 = (d4 : Int) := by rw [← hd4, Int.tdiv_eq_ediv_of_nonneg hz0]
    rw [e3] at hf
    rw [e18] at hu
    rw [e36] at ht
    rw [e144] at hg
    have b1 : (d1 : Int) ≤ 4294967295 := by omega
    have b2 : (d2 : Int) ≤ 4294967295 := by omega
    have b3 : (d3 : Int) ≤ 4294967295 := by omega
    have b4 : (d4 : Int) ≤ 4294967295 := by omega
    have mk : z.tmod 3 = (k : Int) := by rw [Int.tmod_eq_emod_of_nonneg hz0]; exact hk
    have mf : (d1 : Int).tmod 6 = (f : Int) := by rw [Int.tmod_eq_emod_of_nonneg (by omega)]; exact hf
    have mu : (d2 : Int).tmod 2 = (u : Int) := by rw [Int.tmod_eq_emod_of_nonneg (by omega)]; exact hu
    have mt : (d3 : Int).tmod 4 = (t : Int) := by rw [Int.tmod_eq_emod_of_nonneg (by omega)]; exact ht
    have mg : (d4 : Int).tmod 2 = (g : Int) := by rw [Int.tmod_eq_emod_of_nonneg (by omega)]; exact hg
    clear e3 e18 e36 e144 hk hf hu ht hg
    have hkf := And.intro hk3 (And.intro hf6 (And.intro hu2 (And.intro ht4 hg2)))
    have wk : IntKind.i64.wrap (k : Int) = k := IntWalk.i64_in _ (by omega)
    have wf : IntKind.i64.wrap (f : Int) = f := IntWalk.i64_in _ (by omega)
    have wu : IntKind.i64.wrap (u : Int) = u := IntWalk.i64_in _ (by omega)
    have wt : IntKind.i64.wrap (t : Int) = t := IntWalk.i64_in _ (by omega)
    have wft : IntKind.i64.wrap ((f : Int) + t) = f + t := IntWalk.i64_in _ (by omega)
    have w1 : IntKind.u32.wrap (d1 : Int) = d1 := IntWalk.u32_in _ (by omega)
    have w2 : IntKind.u32.wrap (d2 : Int) = d2 := IntWalk.u32_in _ (by omega)
    have w3 : IntKind.u32.wrap (d3 : Int) = d3 := IntWalk.u32_in _ (by omega)
    have w4 : IntKind.u32.wrap (d4 : Int) = d4 := IntWalk.u32_in _ (by omega)
    have e1 : wr.drew.cell? (x.add i) = some (.int .u32 z) := HXC.out wr (Below.refl _ _)
    refine wp_region_held_drew (S := (fun w' : World => w'.cell? (x.add i) = some (.int .u32 z))) (by kernel_rfl) e1 (fun _ => ?_)
    change wpAnyH _ _ _ _ _ 24 #[false, false, false, false, false, false, false, false, false, false, false, false, false, false, false, false, false, false, false, false, false, false, false, false] _ (World.drew _)
    have BD := Lib.hid (below_drew (Below.refl wr.heap.size wr))
    generalize wr.drew = W4 at *
    refine wpAnyH_take (i := 0) (v := .slice (some x) n lc) rfl (by kernel_rfl) (by kernel_rfl) (by kernel_rfl) (fun _ _ _ h => h) (Or.inl ⟨by rfl, fun u hu => by (go_simp)⟩) e1 ?_
    simp only [List.getElem_toArray, List.getElem_cons_succ, List.getElem_cons_zero, Act.put, List.setIfInBounds_toArray, List.set_cons_zero, List.set_cons_succ]
    refine wpAnyH_take (i := 1) (v := .int .i64 i) rfl (by kernel_rfl) (by kernel_rfl) (by kernel_rfl) (fun _ _ _ h => h) (Or.inl ⟨by rfl, fun u hu => by (go_simp)⟩) e1 ?_
    simp only [List.getElem_toArray, List.getElem_cons_succ, List.getElem_cons_zero, Act.put, List.setIfInBounds_toArray, List.set_cons_zero, List.set_cons_succ]
    refine wpAnyH_take (i := 2) (v := .pointer (some (x.add i))) rfl (by kernel_rfl) (by kernel_rfl) (by kernel_rfl) (fun _ _ _ h => h) (Or.inl ⟨by rfl, fun u hu => by (go_simp)⟩) e1 ?_
    simp only [List.getElem_toArray, List.getElem_cons_succ, List.getElem_cons_zero, Act.put, List.setIfInBounds_toArray, List.set_cons_zero, List.set_cons_succ]
    refine wpAnyH_take (i := 3) (v := .int .u32 z) rfl (by kernel_rfl) (by kernel_rfl) (by kernel_rfl) (fun _ _ _ h => h) (Or.inl ⟨by rfl, fun u hu => by (go_simp)⟩) e1 ?_
    simp only [List.getElem_toArray, List.getElem_cons_succ, List.getElem_cons_zero, Act.put, List.setIfInBounds_toArray, List.set_cons_zero, List.set_cons_succ]
    refine wpAnyH_take (i := 4) (v := .int .u32 k) rfl (by kernel_rfl) (by kernel_rfl) (by kernel_rfl) (fun _ _ _ h => h) (Or.inl ⟨by rfl, fun u hu => by (go_simp)⟩) e1 ?_
    simp only [List.getElem_toArray, List.getElem_cons_succ, List.getElem_cons_zero, Act.put, List.setIfInBounds_toArray, List.set_cons_zero, List.set_cons_succ]
    refine wpAnyH_take (i := 5) (v := .int .i64 k) rfl (by kernel_rfl) (by kernel_rfl) (by kernel_rfl) (fun _ _ _ h => h) (Or.inl ⟨by rfl, fun u hu => by (go_simp)⟩) e1 ?_
    simp only [List.getElem_toArray, List.getElem_cons_succ, List.getElem_cons_zero, Act.put, List.setIfInBounds_toArray, List.set_cons_zero, List.set_cons_succ]
    refine wpAnyH_take (i := 6) (v := .int .i64 i) rfl (by kernel_rfl) (by kernel_rfl) (by kernel_rfl) (fun _ _ _ h => h) (Or.inl ⟨by rfl, fun u hu => by (go_simp)⟩) e1 ?_
    simp only [List.getElem_toArray, List.getElem_cons_succ, List.getElem_cons_zero, Act.put, List.setIfInBounds_toArray, List.set_cons_zero, List.set_cons_succ]
    refine wpAnyH_take (i := 7) (v := .slice (some x) n lc) rfl (by kernel_rfl) (by kernel_rfl) (by kernel_rfl) (fun _ _ _ h => h) (Or.inl ⟨by rfl, fun u hu => by (go_simp)⟩) e1 ?_
    simp only [List.getElem_toArray, List.getElem_cons_succ, List.getElem_cons_zero, Act.put, List.setIfInBounds_toArray, List.set_cons_zero, List.set_cons_succ]
    refine wpAnyH_take (i := 8) (v := .int .i64 i) rfl (by kernel_rfl) (by kernel_rfl) (by kernel_rfl) (fun _ _ _ h => h) (Or.inl ⟨by rfl, fun u hu => by (go_simp)⟩) e1 ?_
    simp only [List.getElem_toArray, List.getElem_cons_succ, List.getElem_cons_zero, Act.put, List.setIfInBounds_toArray, List.set_cons_zero, List.set_cons_succ]
    refine wpAnyH_take (i := 9) (v := .pointer (some (x.add i))) rfl (by kernel_rfl) (by kernel_rfl) (by kernel_rfl) (fun _ _ _ h => h) (Or.inl ⟨by rfl, fun u hu => by (go_simp)⟩) e1 ?_
    simp only [List.getElem_toArray, List.getElem_cons_succ, List.getElem_cons_zero, Act.put, List.setIfInBounds_toArray, List.set_cons_zero, List.set_cons_succ]
    refine wpAnyH_take (i := 10) (v := .int .u32 z) rfl (by kernel_rfl) (by kernel_rfl) (by kernel_rfl) (fun _ _ _ h => h) (Or.inl ⟨by rfl, fun u hu => by (go_simp)⟩) e1 ?_
    simp only [List.getElem_toArray, List.getElem_cons_succ, List.getElem_cons_zero, Act.put, List.setIfInBounds_toArray, List.set_cons_zero, List.set_cons_succ]
    refine wpAnyH_take (i := 11) (v := .int .u32 d1) rfl (by kernel_rfl) (by kernel_rfl) (by kernel_rfl) (fun _ _ _ h => h) (Or.inl ⟨by rfl, fun u hu => by (go_simp)⟩) e1 ?_
    simp only [List.getElem_toArray, List.getElem_cons_succ, List.getElem_cons_zero, Act.put, List.setIfInBounds_toArray, List.set_cons_zero, List.set_cons_succ]
    refine wpAnyH_take (i := 12) (v := .int .u32 f) rfl (by kernel_rfl) (by kernel_rfl) (by kernel_rfl) (fun _ _ _ h => h) (Or.inl ⟨by rfl, fun u hu => by (go_simp)⟩) e1 ?_
    simp only [List.getElem_toArray, List.getElem_cons_succ, List.getElem_cons_zero, Act.put, List.setIfInBounds_toArray, List.set_cons_zero, List.set_cons_succ]
    refine wpAnyH_take (i := 13) (v := .int .i64 f) rfl (by kernel_rfl) (by kernel_rfl) (by kernel_rfl) (fun _ _ _ h => h) (Or.inl ⟨by rfl, fun u hu => by (go_simp)⟩) e1 ?_
    simp only [List.getElem_toArray, List.getElem_cons_succ, List.getElem_cons_zero, Act.put, List.setIfInBounds_toArray, List.set_cons_zero, List.set_cons_succ]
    refine wpAnyH_take (i := 14) (v := .slice (some x) n lc) rfl (by kernel_rfl) (by kernel_rfl) (by kernel_rfl) (fun _ _ _ h => h) (Or.inl ⟨by rfl, fun u hu => by (go_simp)⟩) e1 ?_
    simp only [List.getElem_toArray, List.getElem_cons_succ, List.getElem_cons_zero, Act.put, List.setIfInBounds_toArray, List.set_cons_zero, List.set_cons_succ]
    refine wpAnyH_take (i := 15) (v := .int .i64 i) rfl (by kernel_rfl) (by kernel_rfl) (by kernel_rfl) (fun _ _ _ h => h) (Or.inl ⟨by rfl, fun u hu => by (go_simp)⟩) e1 ?_
    simp only [List.getElem_toArray, List.getElem_cons_succ, List.getElem_cons_zero, Act.put, List.setIfInBounds_toArray, List.set_cons_zero, List.set_cons_succ]
    refine wpAnyH_take (i := 16) (v := .pointer (some (x.add i))) rfl (by kernel_rfl) (by kernel_rfl) (by kernel_rfl) (fun _ _ _ h => h) (Or.inl ⟨by rfl, fun u hu => by (go_simp)⟩) e1 ?_
    simp only [List.getElem_toArray, List.getElem_cons_succ, List.getElem_cons_zero, Act.put, List.setIfInBounds_toArray, List.set_cons_zero, List.set_cons_succ]
    refine wpAnyH_take (i := 17) (v := .int .u32 z) rfl (by kernel_rfl) (by kernel_rfl) (by kernel_rfl) (fun _ _ _ h => h) (Or.inl ⟨by rfl, fun u hu => by (go_simp)⟩) e1 ?_
    simp only [List.getElem_toArray, List.getElem_cons_succ, List.getElem_cons_zero, Act.put, List.setIfInBounds_toArray, List.set_cons_zero, List.set_cons_succ]
    refine wpAnyH_take (i := 18) (v := .int .u32 d2) rfl (by kernel_rfl) (by kernel_rfl) (by kernel_rfl) (fun _ _ _ h => h) (Or.inl ⟨by rfl, fun u hu => by (go_simp)⟩) e1 ?_
    simp only [List.getElem_toArray, List.getElem_cons_succ, List.getElem_cons_zero, Act.put, List.setIfInBounds_toArray, List.set_cons_zero, List.set_cons_succ]
    refine wpAnyH_take (i := 19) (v := .int .u32 u) rfl (by kernel_rfl) (by kernel_rfl) (by kernel_rfl) (fun _ _ _ h => h) (Or.inl ⟨by rfl, fun u hu => by (go_simp)⟩) e1 ?_
    simp only [List.getElem_toArray, List.getElem_cons_succ, List.getElem_cons_zero, Act.put, List.setIfInBounds_toArray, List.set_cons_zero, List.set_cons_succ]
    refine wpAnyH_take (i := 20) (v := .int .i64 u) rfl (by kernel_rfl) (by kernel_rfl) (by kernel_rfl) (fun _ _ _ h => h) (Or.inl ⟨by rfl, fun u hu => by (go_simp)⟩) e1 ?_
    simp only [List.getElem_toArray, List.getElem_cons_succ, List.getElem_cons_zero, Act.put, List.setIfInBounds_toArray, List.set_cons_zero, List.set_cons_succ]
    refine wpAnyH_take (i := 21) (v := .agg #[.int .i64 k, .int .i64 i, .int .i64 f, .int .i64 0, .int .i64 0, .int .i64 u]) rfl (by kernel_rfl) (by kernel_rfl) (by kernel_rfl) (fun _ _ _ h => h) (Or.inl ⟨by rfl, fun u hu => by (go_simp)⟩) e1 ?_
    simp only [List.getElem_toArray, List.getElem_cons_succ, List.getElem_cons_zero, Act.put, List.setIfInBounds_toArray, List.set_cons_zero, List.set_cons_succ]
    refine wpAnyH_ready (rs := [22]) (by kernel_rfl) (by simp) ?_
    refine AllReadyH.cons rfl (fun KK hK => ?_) (AllReadyH.nil)
    go_simp
    have HZB := Lib.hid (Blk.made W4 28 #[.int .i64 0, .int .i64 0, .int .i64 0, .int .i64 0, .int .i64 0, .int .i64 0])
    have hnb := BD.out.size
    have B5 := Lib.hid (BD.out.trans ((below_one W4 (.cells #[.int .i64 0, .int .i64 0, .int .i64 0, .int .i64 0, .int .i64 0, .int .i64 0] 28)).mono hnb))
    refine hK.out _ _ (HXC.out _ B5.out) (fun _ => ?_)
    clear hK KK e1
    simp only [List.getElem_toArray, List.getElem_cons_succ, List.getElem_cons_zero, Act.put, List.setIfInBounds_toArray, List.set_cons_zero, List.set_cons_succ]
    generalize W4.alloc (.cells #[.int .i64 0, .int .i64 0, .int .i64 0, .int .i64 0, .int .i64 0, .int .i64 0] 28) = W5 at *
    generalize W4.heap.size = nb at *
    refine wpAnyH_ready (rs := [23]) (by kernel_rfl) (by simp) ?_
    refine AllReadyH.cons rfl (fun KK hK => ?_) (AllReadyH.nil)
    rw [if_pos (show Region.wanted _ _ = true by rfl)]
    refine wp_store_row 28 (.tmp 7) (.tmp 41) rfl nb #[.int .i64 k, .int .i64 i, .int .i64 f, .int .i64 0, .int .i64 0, .int .i64 u] rfl rfl 28 #[.int .i64 0, .int .i64 0, .int .i64 0, .int .i64 0, .int .i64 0, .int .i64 0] HZB.out (by kernel_rfl) rfl (by kernel_rfl) ?_
    have HK6 := Lib.hid (HZB.out.setRow #[.int .i64 k, .int .i64 i, .int .i64 f, .int .i64 0, .int .i64 0, .int .i64 u])
    have B6 := Lib.hid (below_rowg B5.out hnb #[.int .i64 k, .int .i64 i, .int .i64 f, .int .i64 0, .int .i64 0, .int .i64 u])
    refine hK.out _ _ (HXC.out _ B6.out) (fun _ => ?_)
    clear hK KK
    simp only [List.getElem_toArray, List.getElem_cons_succ, List.getElem_cons_zero, Act.put, List.setIfInBounds_toArray, List.set_cons_zero, List.set_cons_succ]
    refine wpAnyH_done (by kernel_rfl) ?_ _
    generalize W5.setRow nb #[.int .i64 k, .int .i64 i, .int .i64 f, .int .i64 0, .int .i64 0, .int .i64 u] = W6 at *
    go_wp2_with fail
    have e2 : W6.drew.cell? (x.add i) = some (.int .u32 z) ∧ W6.drew.cell? ⟨nb, 2, none⟩ = some (.int .i64 f) := ⟨HXC.out W6 B6.out, HK6.out.at_ 2⟩
    refine wp_region_held_drew (S := (fun w' : World => w'.cell? (x.add i) = some (.int .u32 z) ∧ w'.cell? ⟨nb, 2, none⟩ = some (.int .i64 f))) (by kernel_rfl) e2 (fun _ => ?_)
    change wpAnyH _ _ _ _ _ 12 #[false, false, false, false, false, false, false, false, false, false, false, false] _ (World.drew _)
    have B6d := Lib.hid (B6.out.trans (below_drew (Below.refl _ _)))
    have HK6d := Lib.hid (show Blk W6.drew nb 28 #[.int .i64 k, .int .i64 i, .int .i64 f, .int .i64 0, .int .i64 0, .int .i64 u] from HK6.out)
    generalize W6.drew = W7 at *
    refine wpAnyH_take (i := 0) (v := .pointer (some ⟨nb, 2, none⟩)) rfl (by kernel_rfl) (by kernel_rfl) (by kernel_rfl) (fun _ _ _ h => h) (Or.inl ⟨by rfl, fun u hu => by (obtain ⟨hu1, hu2⟩ := hu; go_simp)⟩) e2 ?_
    simp only [List.getElem_toArray, List.getElem_cons_succ, List.getElem_cons_zero, Act.put, List.setIfInBounds_toArray, List.set_cons_zero, List.set_cons_succ]
    refine wpAnyH_take (i := 1) (v := .int .i64 f) rfl (by kernel_rfl) (by kernel_rfl) (by kernel_rfl) (fun _ _ _ h => h) (Or.inl ⟨by rfl, fun u hu => by (obtain ⟨hu1, hu2⟩ := hu; go_simp)⟩) e2 ?_
    simp only [List.getElem_toArray, List.getElem_cons_succ, List.getElem_cons_zero, Act.put, List.setIfInBounds_toArray, List.set_cons_zero, List.set_cons_succ]
    refine wpAnyH_take (i := 2) (v := .slice (some x) n lc) rfl (by kernel_rfl) (by kernel_rfl) (by kernel_rfl) (fun _ _ _ h => h) (Or.inl ⟨by rfl, fun u hu => by (obtain ⟨hu1, hu2⟩ := hu; go_simp)⟩) e2 ?_
    simp only [List.getElem_toArray, List.getElem_cons_succ, List.getElem_cons_zero, Act.put, List.setIfInBounds_toArray, List.set_cons_zero, List.set_cons_succ]
    refine wpAnyH_take (i := 3) (v := .int .i64 i) rfl (by kernel_rfl) (by kernel_rfl) (by kernel_rfl) (fun _ _ _ h => h) (Or.inl ⟨by rfl, fun u hu => by (obtain ⟨hu1, hu2⟩ := hu; go_simp)⟩) e2 ?_
    simp only [List.getElem_toArray, List.getElem_cons_succ, List.getElem_cons_zero, Act.put, List.setIfInBounds_toArray, List.set_cons_zero, List.set_cons_succ]
    refine wpAnyH_take (i := 4) (v := .pointer (some (x.add i))) rfl (by kernel_rfl) (by kernel_rfl) (by kernel_rfl) (fun _ _ _ h => h) (Or.inl ⟨by rfl, fun u hu => by (obtain ⟨hu1, hu2⟩ := hu; go_simp)⟩) e2 ?_
    simp only [List.getElem_toArray, List.getElem_cons_succ, List.getElem_cons_zero, Act.put, List.setIfInBounds_toArray, List.set_cons_zero, List.set_cons_succ]
    refine wpAnyH_take (i := 5) (v := .int .u32 z) rfl (by kernel_rfl) (by kernel_rfl) (by kernel_rfl) (fun _ _ _ h => h) (Or.inl ⟨by rfl, fun u hu => by (obtain ⟨hu1, hu2⟩ := hu; go_simp)⟩) e2 ?_
    simp only [List.getElem_toArray, List.getElem_cons_succ, List.getElem_cons_zero, Act.put, List.setIfInBounds_toArray, List.set_cons_zero, List.set_cons_succ]
    refine wpAnyH_take (i := 6) (v := .int .u32 d3) rfl (by kernel_rfl) (by kernel_rfl) (by kernel_rfl) (fun _ _ _ h => h) (Or.inl ⟨by rfl, fun u hu => by (obtain ⟨hu1, hu2⟩ := hu; go_simp)⟩) e2 ?_
    simp only [List.getElem_toArray, List.getElem_cons_succ, List.getElem_cons_zero, Act.put, List.setIfInBounds_toArray, List.set_cons_zero, List.set_cons_succ]
    refine wpAnyH_take (i := 7) (v := .int .u32 t) rfl (by kernel_rfl) (by kernel_rfl) (by kernel_rfl) (fun _ _ _ h => h) (Or.inl ⟨by rfl, fun u hu => by (obtain ⟨hu1, hu2⟩ := hu; go_simp)⟩) e2 ?_
    simp only [List.getElem_toArray, List.getElem_cons_succ, List.getElem_cons_zero, Act.put, List.setIfInBounds_toArray, List.set_cons_zero, List.set_cons_succ]
    refine wpAnyH_take (i := 8) (v := .int .i64 t) rfl (by kernel_rfl) (by kernel_rfl) (by kernel_rfl) (fun _ _ _ h => h) (Or.inl ⟨by rfl, fun u hu => by (obtain ⟨hu1, hu2⟩ := hu; go_simp)⟩) e2 ?_
    simp only [List.getElem_toArray, List.getElem_cons_succ, List.getElem_cons_zero, Act.put, List.setIfInBounds_toArray, List.set_cons_zero, List.set_cons_succ]
    refine wpAnyH_take (i := 9) (v := .int .i64 ((f : Int) + t)) rfl (by kernel_rfl) (by kernel_rfl) (by kernel_rfl) (fun _ _ _ h => h) (Or.inl ⟨by rfl, fun u hu => by (obtain ⟨hu1, hu2⟩ := hu; go_simp)⟩) e2 ?_
    simp only [List.getElem_toArray, List.getElem_cons_succ, List.getElem_cons_zero, Act.put, List.setIfInBounds_toArray, List.set_cons_zero, List.set_cons_succ]
    refine wpAnyH_take (i := 10) (v := .pointer (some ⟨nb, 3, none⟩)) rfl (by kernel_rfl) (by kernel_rfl) (by kernel_rfl) (fun _ _ _ h => h) (Or.inl ⟨by rfl, fun u hu => by (obtain ⟨hu1, hu2⟩ := hu; go_simp)⟩) e2 ?_
    simp only [List.getElem_toArray, List.getElem_cons_succ, List.getElem_cons_zero, Act.put, List.setIfInBounds_toArray, List.set_cons_zero, List.set_cons_succ]
    refine wpAnyH_ready (rs := [11]) (by kernel_rfl) (by simp) ?_
    refine AllReadyH.cons rfl (fun KK hK => ?_) (AllReadyH.nil)
    have qc : W7.cell? ⟨nb, 3, none⟩ = some (.int .i64 0) := HK6d.out.at_ 3
    have qf := HK6d.out.free 3
    go_simp
    have HK7 := Lib.hid (show Blk (W7.setCell ⟨nb, 3, none⟩ (.int .i64 ((f : Int) + t))) nb 28 #[.int .i64 k, .int .i64 i, .int .i64 f, .int .i64 ((f : Int) + t), .int .i64 0, .int .i64 u] from HK6d.out.put 3 (.int .i64 ((f : Int) + t)))
    have B7 := Lib.hid (below_set (i := 3) B6d.out hnb (.int .i64 ((f : Int) + t)))
    refine hK.out _ _ ⟨HXC.out _ B7.out, HK7.out.at_ 2⟩ (fun _ => ?_)
    clear hK KK e2 qc qf
    simp only [List.getElem_toArray, List.getElem_cons_succ, List.getElem_cons_zero, Act.put, List.setIfInBounds_toArray, List.set_cons_zero, List.set_cons_succ]
    refine wpAnyH_done (by kernel_rfl) ?_ _
    generalize W7.setCell ⟨nb, 3, none⟩ (.int .i64 ((f : Int) + t)) = W8 at *
    go_wp2_with fail
    have e3 : W8.drew.cell? (x.add i) = some (.int .u32 z) ∧ W8.drew.cell? ⟨nb, 0, none⟩ = some (.int .i64 k) := ⟨HXC.out W8 B7.out, HK7.out.at_ 0⟩
    refine wp_region_held_drew (S := (fun w' : World => w'.cell? (x.add i) = some (.int .u32 z) ∧ w'.cell? ⟨nb, 0, none⟩ = some (.int .i64 k))) (by kernel_rfl) e3 (fun _ => ?_)
    change wpAnyH _ _ _ _ _ 18 #[false, false, false, false, false, false, false, false, false, false, false, false, false, false, false, false, false, false] _ (World.drew _)
    have B9 := Lib.hid (B7.out.trans (below_drew (Below.refl _ _)))
    have HK9 := Lib.hid (show Blk W8.drew nb 28 #[.int .i64 k, .int .i64 i, .int .i64 f, .int .i64 ((f : Int) + t), .int .i64 0, .int .i64 u] from HK7.out)
    generalize W8.drew = W9 at *
    refine wpAnyH_take (i := 4) (v := .pointer (some ⟨nb, 0, none⟩)) rfl (by kernel_rfl) (by kernel_rfl) (by kernel_rfl) (fun _ _ _ h => h) (Or.inl ⟨by rfl, fun u hu => by (obtain ⟨hu1, hu2⟩ := hu; go_simp)⟩) e3 ?_
    simp only [List.getElem_toArray, List.getElem_cons_succ, List.getElem_cons_zero, Act.put, List.setIfInBounds_toArray, List.set_cons_zero, List.set_cons_succ]
    refine wpAnyH_take (i := 5) (v := .int .i64 k) rfl (by kernel_rfl) (by kernel_rfl) (by kernel_rfl) (fun _ _ _ h => h) (Or.inl ⟨by rfl, fun u hu => by (obtain ⟨hu1, hu2⟩ := hu; go_simp)⟩) e3 ?_
    simp only [List.getElem_toArray, List.getElem_cons_succ, List.getElem_cons_zero, Act.put, List.setIfInBounds_toArray, List.set_cons_zero, List.set_cons_succ]
    refine wpAnyH_take (i := 8) (v := .slice (some x) n lc) rfl (by kernel_rfl) (by kernel_rfl) (by kernel_rfl) (fun _ _ _ h => h) (Or.inl ⟨by rfl, fun u hu => by (obtain ⟨hu1, hu2⟩ := hu; go_simp)⟩) e3 ?_
    simp only [List.getElem_toArray, List.getElem_cons_succ, List.getElem_cons_zero, Act.put, List.setIfInBounds_toArray, List.set_cons_zero, List.set_cons_succ]
    refine wpAnyH_take (i := 9) (v := .int .i64 i) rfl (by kernel_rfl) (by kernel_rfl) (by kernel_rfl) (fun _ _ _ h => h) (Or.inl ⟨by rfl, fun u hu => by (obtain ⟨hu1, hu2⟩ := hu; go_simp)⟩) e3 ?_
    simp only [List.getElem_toArray, List.getElem_cons_succ, List.getElem_cons_zero, Act.put, List.setIfInBounds_toArray, List.set_cons_zero, List.set_cons_succ]
    refine wpAnyH_take (i := 10) (v := .pointer (some (x.add i))) rfl (by kernel_rfl) (by kernel_rfl) (by kernel_rfl) (fun _ _ _ h => h) (Or.inl ⟨by rfl, fun u hu => by (obtain ⟨hu1, hu2⟩ := hu; go_simp)⟩) e3 ?_
    simp only [List.getElem_toArray, List.getElem_cons_succ, List.getElem_cons_zero, Act.put, List.setIfInBounds_toArray, List.set_cons_zero, List.set_cons_succ]
    refine wpAnyH_take (i := 11) (v := .int .u32 z) rfl (by kernel_rfl) (by kernel_rfl) (by kernel_rfl) (fun _ _ _ h => h) (Or.inl ⟨by rfl, fun u hu => by (obtain ⟨hu1, hu2⟩ := hu; go_simp)⟩) e3 ?_
    simp only [List.getElem_toArray, List.getElem_cons_succ, List.getElem_cons_zero, Act.put, List.setIfInBounds_toArray, List.set_cons_zero, List.set_cons_succ]
    refine wpAnyH_take (i := 12) (v := .int .u32 d4) rfl (by kernel_rfl) (by kernel_rfl) (by kernel_rfl) (fun _ _ _ h => h) (Or.inl ⟨by rfl, fun u hu => by (obtain ⟨hu1, hu2⟩ := hu; go_simp)⟩) e3 ?_
    simp only [List.getElem_toArray, List.getElem_cons_succ, List.getElem_cons_zero, Act.put, List.setIfInBounds_toArray, List.set_cons_zero, List.set_cons_succ]
    refine wpAnyH_take (i := 13) (v := .int .u32 g) rfl (by kernel_rfl) (by kernel_rfl) (by kernel_rfl) (fun _ _ _ h => h) (Or.inl ⟨by rfl, fun u hu => by (obtain ⟨hu1, hu2⟩ := hu; go_simp)⟩) e3 ?_
    simp only [List.getElem_toArray, List.getElem_cons_succ, List.getElem_cons_zero, Act.put, List.setIfInBounds_toArray, List.set_cons_zero, List.set_cons_succ]
    have HKC := Lib.hid hkf
    refine wpAnyH_ready (rs := [0, 1, 2]) (by kernel_rfl) (by simp) ?_
    refine AllReadyH.cons rfl (fun KK hK => ?_) (AllReadyH.cons rfl (fun KK hK => ?_) (AllReadyH.cons rfl (fun KK hK => ?_) (AllReadyH.nil)))
    · skip
      go_simp
      have HA0 := Lib.hid (Blk.made W9 3 #[.int .i64 0, .int .i64 3])
      have HK10 := Lib.hid (HK9.out.alloc (.cells #[.int .i64 0, .int .i64 3] 3))
      have B10 := Lib.hid (B9.out.alloc B9.out.size (.cells #[.int .i64 0, .int .i64 3] 3))
      refine hK.out _ _ ⟨HXC.out _ B10.out, HK10.out.at_ 0⟩ (fun _ => ?_)
      clear hK KK
      simp only [List.getElem_toArray, List.getElem_cons_succ, List.getElem_cons_zero, Act.put, List.setIfInBounds_toArray, List.set_cons_zero, List.set_cons_succ]
      generalize W9.alloc (.cells #[.int .i64 0, .int .i64 3] 3) = W10 at *
      generalize W9.heap.size = a0 at *
      refine wpAnyH_ready (rs := [1, 2]) (by kernel_rfl) (by simp) ?_
      refine AllReadyH.cons rfl (fun KK hK => ?_) (AllReadyH.cons rfl (fun KK hK => ?_) (AllReadyH.nil))
      · skip
        go_simp
        have HA1 := Lib.hid (Blk.made W10 3 #[.int .i64 1, .int .i64 2])
        have HA0 := Lib.hid (HA0.out.alloc (.cells #[.int .i64 1, .int .i64 2] 3))
        have HK11 := Lib.hid (HK10.out.alloc (.cells #[.int .i64 1, .int .i64 2] 3))
        have B11 := Lib.hid (B10.out.alloc B10.out.size (.cells #[.int .i64 1, .int .i64 2] 3))
        refine hK.out _ _ ⟨HXC.out _ B11.out, HK11.out.at_ 0⟩ (fun _ => ?_)
        clear hK KK
        simp only [List.getElem_toArray, List.getElem_cons_succ, List.getElem_cons_zero, Act.put, List.setIfInBounds_toArray, List.set_cons_zero, List.set_cons_succ]
        generalize W10.alloc (.cells #[.int .i64 1, .int .i64 2] 3) = W11 at *
        generalize W10.heap.size = a1 at *
        refine wpAnyH_ready (rs := [2]) (by kernel_rfl) (by simp) ?_
        refine AllReadyH.cons rfl (fun KK hK => ?_) (AllReadyH.nil)
        · skip
          go_simp
          have HA2 := Lib.hid (Blk.made W11 3 #[.int .i64 1, .int .i64 4])
          have HA0 := Lib.hid (HA0.out.alloc (.cells #[.int .i64 1, .int .i64 4] 3))
          have HA1 := Lib.hid (HA1.out.alloc (.cells #[.int .i64 1, .int .i64 4] 3))
          have HK12 := Lib.hid (HK11.out.alloc (.cells #[.int .i64 1, .int .i64 4] 3))
          have B12 := Lib.hid (B11.out.alloc B11.out.size (.cells #[.int .i64 1, .int .i64 4] 3))
          refine hK.out _ _ ⟨HXC.out _ B12.out, HK12.out.at_ 0⟩ (fun _ => ?_)
          clear hK KK
          simp only [List.getElem_toArray, List.getElem_cons_succ, List.getElem_cons_zero, Act.put, List.setIfInBounds_toArray, List.set_cons_zero, List.set_cons_succ]
          generalize W11.alloc (.cells #[.int .i64 1, .int .i64 4] 3) = W12 at *
          generalize W11.heap.size = a2 at *
          refine wpAnyH_ready (rs := [3]) (by kernel_rfl) (by simp) ?_
          refine AllReadyH.cons rfl (fun KK hK => ?_) (AllReadyH.nil)
          go_simp
          have HA3 := Lib.hid (Blk.made W12 24 #[.slice (some ⟨a0, 0, none⟩) 2 2, .slice (some ⟨a1, 0, none⟩) 2 2, .slice (some ⟨a2, 0, none⟩) 2 2])
          have HA0 := Lib.hid (HA0.out.alloc (.cells #[.slice (some ⟨a0, 0, none⟩) 2 2, .slice (some ⟨a1, 0, none⟩) 2 2, .slice (some ⟨a2, 0, none⟩) 2 2] 24))
          have HA1 := Lib.hid (HA1.out.alloc (.cells #[.slice (some ⟨a0, 0, none⟩) 2 2, .slice (some ⟨a1, 0, none⟩) 2 2, .slice (some ⟨a2, 0, none⟩) 2 2] 24))
          have HA2 := Lib.hid (HA2.out.alloc (.cells #[.slice (some ⟨a0, 0, none⟩) 2 2, .slice (some ⟨a1, 0, none⟩) 2 2, .slice (some ⟨a2, 0, none⟩) 2 2] 24))
          have HK13 := Lib.hid (HK12.out.alloc (.cells #[.slice (some ⟨a0, 0, none⟩) 2 2, .slice (some ⟨a1, 0, none⟩) 2 2, .slice (some ⟨a2, 0, none⟩) 2 2] 24))
          have B13 := Lib.hid (B12.out.alloc B12.out.size (.cells #[.slice (some ⟨a0, 0, none⟩) 2 2, .slice (some ⟨a1, 0, none⟩) 2 2, .slice (some ⟨a2, 0, none⟩) 2 2] 24))
          refine hK.out _ _ ⟨HXC.out _ B13.out, HK13.out.at_ 0⟩ (fun _ => ?_)
          clear hK KK
          simp only [List.getElem_toArray, List.getElem_cons_succ, List.getElem_cons_zero, Act.put, List.setIfInBounds_toArray, List.set_cons_zero, List.set_cons_succ]
          generalize W12.alloc (.cells #[.slice (some ⟨a0, 0, none⟩) 2 2, .slice (some ⟨a1, 0, none⟩) 2 2, .slice (some ⟨a2, 0, none⟩) 2 2] 24) = W13 at *
          generalize W12.heap.size = ab at *
          obtain ⟨ac, c, hp1, hp2⟩ := pick3 HA0.out HA1.out HA2.out HA3.out HKC.out.1 HKC.out.2.2.2.2
          have k3 : (k : Int) < 3 := by have := HKC.out.1; omega
          have g2 : (g : Int) < 2 := by have := HKC.out.2.2.2.2; omega
          refine wpAnyH_ready (rs := [6]) (by kernel_rfl) (by simp) ?_
          refine AllReadyH.cons rfl (fun KK hK => ?_) (AllReadyH.nil)
          go_simp
          refine hK.out _ _ ⟨HXC.out _ B13.out, HK13.out.at_ 0⟩ (fun _ => ?_)
          clear hK KK
          simp only [List.getElem_toArray, List.getElem_cons_succ, List.getElem_cons_zero, Act.put, List.setIfInBounds_toArray, List.set_cons_zero, List.set_cons_succ]
          refine wpAnyH_ready (rs := [7]) (by kernel_rfl) (by simp) ?_
          refine AllReadyH.cons rfl (fun KK hK => ?_) (AllReadyH.nil)
          go_simp
          refine hK.out _ _ ⟨HXC.out _ B13.out, HK13.out.at_ 0⟩ (fun _ => ?_)
          clear hK KK
          simp only [List.getElem_toArray, List.getElem_cons_succ, List.getElem_cons_zero, Act.put, List.setIfInBounds_toArray, List.set_cons_zero, List.set_cons_succ]
          refine wpAnyH_ready (rs := [14]) (by kernel_rfl) (by simp) ?_
          refine AllReadyH.cons rfl (fun KK hK => ?_) (AllReadyH.nil)
          go_simp
          refine hK.out _ _ ⟨HXC.out _ B13.out, HK13.out.at_ 0⟩ (fun _ => ?_)
          clear hK KK
          simp only [List.getElem_toArray, List.getElem_cons_succ, List.getElem_cons_zero, Act.put, List.setIfInBounds_toArray, List.set_cons_zero, List.set_cons_succ]
          refine wpAnyH_ready (rs := [15]) (by kernel_rfl) (by simp) ?_
          refine AllReadyH.cons rfl (fun KK hK => ?_) (AllReadyH.nil)
          go_simp
          refine hK.out _ _ ⟨HXC.out _ B13.out, HK13.out.at_ 0⟩ (fun _ => ?_)
          clear hK KK
          simp only [List.getElem_toArray, List.getElem_cons_succ, List.getElem_cons_zero, Act.put, List.setIfInBounds_toArray, List.set_cons_zero, List.set_cons_succ]
          refine wpAnyH_ready (rs := [16]) (by kernel_rfl) (by simp) ?_
          refine AllReadyH.cons rfl (fun KK hK => ?_) (AllReadyH.nil)
          go_simp
          refine hK.out _ _ ⟨HXC.out _ B13.out, HK13.out.at_ 0⟩ (fun _ => ?_)
          clear hK KK
          simp only [List.getElem_toArray, List.getElem_cons_succ, List.getElem_cons_zero, Act.put, List.setIfInBounds_toArray, List.set_cons_zero, List.set_cons_succ]
          refine wpAnyH_ready (rs := [17]) (by kernel_rfl) (by simp) ?_
          refine AllReadyH.cons rfl (fun KK hK => ?_) (AllReadyH.nil)
          have qc : W13.cell? ⟨nb, 4, none⟩ = some (.int .i64 0) := HK13.out.at_ 4
          have qf := HK13.out.free 4
          go_simp
          have HKE := Lib.hid (show Blk (W13.setCell ⟨nb, 4, none⟩ (.int .i64 c)) nb 28 #[.int .i64 k, .int .i64 i, .int .i64 f, .int .i64 ((f : Int) + t), .int .i64 c, .int .i64 u] from HK13.out.put 4 (.int .i64 c))
          have BE := Lib.hid (below_set (i := 4) B13.out hnb (.int .i64 c))
          refine hK.out _ _ ⟨HXC.out _ BE.out, HKE.out.at_ 0⟩ (fun _ => ?_)
          clear hK KK qc qf hp1 hp2
          simp only [List.getElem_toArray, List.getElem_cons_succ, List.getElem_cons_zero, Act.put, List.setIfInBounds_toArray, List.set_cons_zero, List.set_cons_succ]
          refine wpAnyH_done (by kernel_rfl) ?_ _
          generalize W13.setCell ⟨nb, 4, none⟩ (.int .i64 c) = WE at *
          clear HA0 HA1 HA2 HA3
          have ce := HKE.out.at_ 4
          have HRL := Lib.hid (show (List.map opL r).length + 1 ≤ 1000000 by rw [List.length_map, HR.out.1]; have := H7.out; omega)
          by_cases hc1 : c = 1
          · subst hc1
            skip
            have HOW := Lib.hid (HO.out.below BE.out)
            have BW := Lib.hid (HB.out.trans (Below.mono BE.out HB.out.size))
            have hbs := fun (W : World) => Blk.made W 28 #[.int .i64 k, .int .i64 i, .int .i64 f, .int .i64 ((f : Int) + t), .int .i64 1, .int .i64 u]
            go_wp2_with (first | (refine wpList_load_row rfl 28 (.tmp 7) rfl nb rfl 28 #[.int .i64 k, .int .i64 i, .int .i64 f, .int .i64 ((f : Int) + t), .int .i64 1, .int .i64 u] (0, 0) _ HKE.out Try.underlying28 rfl (by kernel_rfl) ?_) | (refine wpList_appG info_op rfl (by omega) (by omega) Try.underlying25 rfl (.tmp 79) (.tmp 81) rfl rfl (HOW.out.below (below_one _ _)) rfl (opL_ok ⟨k, i, f, (f : Int) + t, 1, u⟩) (made_row1 (hbs _)) HRL.out (Nat.le_trans BW.out.size (below_one _ _).size) ?_; intro v' w' hown hgr hv'; have BN := Lib.hid (below_appG (BW.out.trans ((below_one _ _).mono BW.out.size)) (HOW.out.below (below_one _ _)) hgr); have HOWN := Lib.hid hown; clear hown hgr hv'))
            go_roundw
            case rel => exact ⟨i + 1, r ++ [⟨k, i, f, (f : Int) + t, 1, u⟩], by omega, rfl, Lib.hid (by rw [List.map_append]; exact HOWN.out), Lib.hid ⟨by rw [List.length_append, HR.out.1]; rfl, smo_snoc HR.out.2 ⟨by simp only []; omega, by simp only []; omega⟩⟩, BN⟩
            case measure => simp only [intOf]; omega
          · by_cases hc0 : c = 0
            · subst hc0
              skip
              have HOW := Lib.hid (HO.out.below BE.out)
              have BW := Lib.hid (HB.out.trans (Below.mono BE.out HB.out.size))
              have hbs := fun (W : World) => Blk.made W 28 #[.int .i64 k, .int .i64 i, .int .i64 f, .int .i64 ((f : Int) + t), .int .i64 0, .int .i64 u]
              go_wp2_with (first | (refine wpList_load_row rfl 28 (.tmp 7) rfl nb rfl 28 #[.int .i64 k, .int .i64 i, .int .i64 f, .int .i64 ((f : Int) + t), .int .i64 0, .int .i64 u] (0, 0) _ HKE.out Try.underlying28 rfl (by kernel_rfl) ?_) | (refine wpList_appG info_op rfl (by omega) (by omega) Try.underlying25 rfl (.tmp 79) (.tmp 81) rfl rfl (HOW.out.below (below_one _ _)) rfl (opL_ok ⟨k, i, f, (f : Int) + t, 0, u⟩) (made_row1 (hbs _)) HRL.out (Nat.le_trans BW.out.size (below_one _ _).size) ?_; intro v' w' hown hgr hv'; have BN := Lib.hid (below_appG (BW.out.trans ((below_one _ _).mono BW.out.size)) (HOW.out.below (below_one _ _)) hgr); have HOWN := Lib.hid hown; clear hown hgr hv'))
              go_roundw
              case rel => exact ⟨i + 1, r ++ [⟨k, i, f, (f : Int) + t, 0, u⟩], by omega, rfl, Lib.hid (by rw [List.map_append]; exact HOWN.out), Lib.hid ⟨by rw [List.length_append, HR.out.1]; rfl, smo_snoc HR.out.2 ⟨by simp only []; omega, by simp only []; omega⟩⟩, BN⟩
              case measure => simp only [intOf]; omega
            · have hq1 : (c != 1) = true := by simp [hc1]
              have hq0 : (c != 0) = true := by simp [hc0]
              have qc := HKE.out.at_ 5
              have qf := HKE.out.free 5
              go_upto_region 13 with fail
              have HKF := Lib.hid (HKE.out.put 5 (.int .i64 0))
              have BF := Lib.hid (below_set (i := 5) BE.out hnb (.int .i64 0))
              clear qc qf ce
              generalize WE.setCell ⟨nb, 5, none⟩ (.int .i64 0) = WF at *
              have HOW := Lib.hid (HO.out.below BF.out)
              have BW := Lib.hid (HB.out.trans (Below.mono BF.out HB.out.size))
              have hbs := fun (W : World) => Blk.made W 28 #[.int .i64 k, .int .i64 i, .int .i64 f, .int .i64 ((f : Int) + t), .int .i64 c, .int .i64 0]
              go_wp2_with (first | (refine wpList_load_row rfl 28 (.tmp 7) rfl nb rfl 28 #[.int .i64 k, .int .i64 i, .int .i64 f, .int .i64 ((f : Int) + t), .int .i64 c, .int .i64 0] (0, 0) _ HKF.out Try.underlying28 rfl (by kernel_rfl) ?_) | (refine wpList_appG info_op rfl (by omega) (by omega) Try.underlying25 rfl (.tmp 79) (.tmp 81) rfl rfl (HOW.out.below (below_one _ _)) rfl (opL_ok ⟨k, i, f, (f : Int) + t, c, 0⟩) (made_row1 (hbs _)) HRL.out (Nat.le_trans BW.out.size (below_one _ _).size) ?_; intro v' w' hown hgr hv'; have BN := Lib.hid (below_appG (BW.out.trans ((below_one _ _).mono BW.out.size)) (HOW.out.below (below_one _ _)) hgr); have HOWN := Lib.hid hown; clear hown hgr hv'))
              go_roundw
              case rel => exact ⟨i + 1, r ++ [⟨k, i, f, (f : Int) + t, c, 0⟩], by omega, rfl, Lib.hid (by rw [List.map_append]; exact HOWN.out), Lib.hid ⟨by rw [List.length_append, HR.out.1]; rfl, smo_snoc HR.out.2 ⟨Or.inl rfl, by simp only []; omega⟩⟩, BN⟩
              case measure => simp only [intOf]; omega
      · skip
        go_simp
        have HA2 := Lib.hid (Blk.made W10 3 #[.int .i64 1, .int .i64 4])
        have HA0 := Lib.hid (HA0.out.alloc (.cells #[.int .i64 1, .int .i64 4] 3))
        have HK11 := Lib.hid (HK10.out.alloc (.cells #[.int .i64 1, .int .i64 4] 3))
        have B11 := Lib.hid (B10.out.alloc B10.out.size (.cells #[.int .i64 1, .int .i64 4] 3))
        refine hK.out _ _ ⟨HXC.out _ B11.out, HK11.out.at_ 0⟩ (fun _ => ?_)
        clear hK KK
        simp only [List.getElem_toArray, List.getElem_cons_succ, List.getElem_cons_zero, Act.put, List.setIfInBounds_toArray, List.set_cons_zero, List.set_cons_succ]
        generalize W10.alloc (.cells #[.int .i64 1, .int .i64 4] 3) = W11 at *
        generalize W10.heap.size = a2 at *
        refine wpAnyH_ready (rs := [1]) (by kernel_rfl) (by simp) ?_
        refine AllReadyH.cons rfl (fun KK hK => ?_) (AllReadyH.nil)
        · skip
          go_simp
          have HA1 := Lib.hid (Blk.made W11 3 #[.int .i64 1, .int .i64 2])
          have HA0 := Lib.hid (HA0.out.alloc (.cells #[.int .i64 1, .int .i64 2] 3))
          have HA2 := Lib.hid (HA2.out.alloc (.cells #[.int .i64 1, .int .i64 2] 3))
          have HK12 := Lib.hid (HK11.out.alloc (.cells #[.int .i64 1, .int .i64 2] 3))
          have B12 := Lib.hid (B11.out.alloc B11.out.size (.cells #[.int .i64 1, .int .i64 2] 3))
          refine hK.out _ _ ⟨HXC.out _ B12.out, HK12.out.at_ 0⟩ (fun _ => ?_)
          clear hK KK
          simp only [List.getElem_toArray, List.getElem_cons_succ, List.getElem_cons_zero, Act.put, List.setIfInBounds_toArray, List.set_cons_zero, List.set_cons_succ]
          generalize W11.alloc (.cells #[.int .i64 1, .int .i64 2] 3) = W12 at *
          generalize W11.heap.size = a1 at *
          refine wpAnyH_ready (rs := [3]) (by kernel_rfl) (by simp) ?_
          refine AllReadyH.cons rfl (fun KK hK => ?_) (AllReadyH.nil)
          go_simp
          have HA3 := Lib.hid (Blk.made W12 24 #[.slice (some ⟨a0, 0, none⟩) 2 2, .slice (some ⟨a1, 0, none⟩) 2 2, .slice (some ⟨a2, 0, none⟩) 2 2])
          have HA0 := Lib.hid (HA0.out.alloc (.cells #[.slice (some ⟨a0, 0, none⟩) 2 2, .slice (some ⟨a1, 0, none⟩) 2 2, .slice (some ⟨a2, 0, none⟩) 2 2] 24))
          have HA1 := Lib.hid (HA1.out.alloc (.cells #[.slice (some ⟨a0, 0, none⟩) 2 2, .slice (some ⟨a1, 0, none⟩) 2 2, .slice (some ⟨a2, 0, none⟩) 2 2] 24))
          have HA2 := Lib.hid (HA2.out.alloc (.cells #[.slice (some ⟨a0, 0, none⟩) 2 2, .slice (some ⟨a1, 0, none⟩) 2 2, .slice (some ⟨a2, 0, none⟩) 2 2] 24))
          have HK13 := Lib.hid (HK12.out.alloc (.cells #[.slice (some ⟨a0, 0, none⟩) 2 2, .slice (some ⟨a1, 0, none⟩) 2 2, .slice (some ⟨a2, 0, none⟩) 2 2] 24))
          have B13 := Lib.hid (B12.out.alloc B12.out.size (.cells #[.slice (some ⟨a0, 0, none⟩) 2 2, .slice (some ⟨a1, 0, none⟩) 2 2, .slice (some ⟨a2, 0, none⟩) 2 2] 24))
          refine hK.out _ _ ⟨HXC.out _ B13.out, HK13.out.at_ 0⟩ (fun _ => ?_)
          clear hK KK
          simp only [List.getElem_toArray, List.getElem_cons_succ, List.getElem_cons_zero, Act.put, List.setIfInBounds_toArray, List.set_cons_zero, List.set_cons_succ]
          generalize W12.alloc (.cells #[.slice (some ⟨a0, 0, none⟩) 2 2, .slice (some ⟨a1, 0, none⟩) 2 2, .slice (some ⟨a2, 0, none⟩) 2 2] 24) = W13 at *
          generalize W12.heap.size = ab at *
          obtain ⟨ac, c, hp1, hp2⟩ := pick3 HA0.out HA1.out HA2.out HA3.out HKC.out.1 HKC.out.2.2.2.2
          have k3 : (k : Int) < 3 := by have := HKC.out.1; omega
          have g2 : (g : Int) < 2 := by have := HKC.out.2.2.2.2; omega
          refine wpAnyH_ready (rs := [6]) (by kernel_rfl) (by simp) ?_
          refine AllReadyH.cons rfl (fun KK hK => ?_) (AllReadyH.nil)
          go_simp
          refine hK.out _ _ ⟨HXC.out _ B13.out, HK13.out.at_ 0⟩ (fun _ => ?_)
          clear hK KK
          simp only [List.getElem_toArray, List.getElem_cons_succ, List.getElem_cons_zero, Act.put, List.setIfInBounds_toArray, List.set_cons_zero, List.set_cons_succ]
          refine wpAnyH_ready (rs := [7]) (by kernel_rfl) (by simp) ?_
          refine AllReadyH.cons rfl (fun KK hK => ?_) (AllReadyH.nil)
          go_simp
          refine hK.out _ _ ⟨HXC.out _ B13.out, HK13.out.at_ 0⟩ (fun _ => ?_)
          clear hK KK
          simp only [List.getElem_toArray, List.getElem_cons_succ, List.getElem_cons_zero, Act.put, List.setIfInBounds_toArray, List.set_cons_zero, List.set_cons_succ]
          refine wpAnyH_ready (rs := [14]) (by kernel_rfl) (by simp) ?_
          refine AllReadyH.cons rfl (fun KK hK => ?_) (AllReadyH.nil)
          go_simp
          refine hK.out _ _ ⟨HXC.out _ B13.out, HK13.out.at_ 0⟩ (fun _ => ?_)
          clear hK KK
          simp only [List.getElem_toArray, List.getElem_cons_succ, List.getElem_cons_zero, Act.put, List.setIfInBounds_toArray, List.set_cons_zero, List.set_cons_succ]
          refine wpAnyH_ready (rs := [15]) (by kernel_rfl) (by simp) ?_
          refine AllReadyH.cons rfl (fun KK hK => ?_) (AllReadyH.nil)
          go_simp
          refine hK.out _ _ ⟨HXC.out _ B13.out, HK13.out.at_ 0⟩ (fun _ => ?_)
          clear hK KK
          simp only [List.getElem_toArray, List.getElem_cons_succ, List.getElem_cons_zero, Act.put, List.setIfInBounds_toArray, List.set_cons_zero, List.set_cons_succ]
          refine wpAnyH_ready (rs := [16]) (by kernel_rfl) (by simp) ?_
          refine AllReadyH.cons rfl (fun KK hK => ?_) (AllReadyH.nil)
          go_simp
          refine hK.out _ _ ⟨HXC.out _ B13.out, HK13.out.at_ 0⟩ (fun _ => ?_)
          clear hK KK
          simp only [List.getElem_toArray, List.getElem_cons_succ, List.getElem_cons_zero, Act.put, List.setIfInBounds_toArray, List.set_cons_zero, List.set_cons_succ]
          refine wpAnyH_ready (rs := [17]) (by kernel_rfl) (by simp) ?_
          refine AllReadyH.cons rfl (fun KK hK => ?_) (AllReadyH.nil)
          have qc : W13.cell? ⟨nb, 4, none⟩ = some (.int .i64 0) := HK13.out.at_ 4
          have qf := HK13.out.free 4
          go_simp
          have HKE := Lib.hid (show Blk (W13.setCell ⟨nb, 4, none⟩ (.int .i64 c)) nb 28 #[.int .i64 k, .int .i64 i, .int .i64 f, .int .i64 ((f : Int) + t), .int .i64 c, .int .i64 u] from HK13.out.put 4 (.int .i64 c))
          have BE := Lib.hid (below_set (i := 4) B13.out hnb (.int .i64 c))
          refine hK.out _ _ ⟨HXC.out _ BE.out, HKE.out.at_ 0⟩ (fun _ => ?_)
          clear hK KK qc qf hp1 hp2
          simp only [List.getElem_toArray, List.getElem_cons_succ, List.getElem_cons_zero, Act.put, List.setIfInBounds_toArray, List.set_cons_zero, List.set_cons_succ]
          refine wpAnyH_done (by kernel_rfl) ?_ _
          generalize W13.setCell ⟨nb, 4, none⟩ (.int .i64 c) = WE at *
          clear HA0 HA1 HA2 HA3
          have ce := HKE.out.at_ 4
          have HRL := Lib.hid (show (List.map opL r).length + 1 ≤ 1000000 by rw [List.length_map, HR.out.1]; have := H7.out; omega)
          by_cases hc1 : c = 1
          · subst hc1
            skip
            have HOW := Lib.hid (HO.out.below BE.out)
            have BW := Lib.hid (HB.out.trans (Below.mono BE.out HB.out.size))
            have hbs := fun (W : World) => Blk.made W 28 #[.int .i64 k, .int .i64 i, .int .i64 f, .int .i64 ((f : Int) + t), .int .i64 1, .int .i64 u]
            go_wp2_with (first | (refine wpList_load_row rfl 28 (.tmp 7) rfl nb rfl 28 #[.int .i64 k, .int .i64 i, .int .i64 f, .int .i64 ((f : Int) + t), .int .i64 1, .int .i64 u] (0, 0) _ HKE.out Try.underlying28 rfl (by kernel_rfl) ?_) | (refine wpList_appG info_op rfl (by omega) (by omega) Try.underlying25 rfl (.tmp 79) (.tmp 81) rfl rfl (HOW.out.below (below_one _ _)) rfl (opL_ok ⟨k, i, f, (f : Int) + t, 1, u⟩) (made_row1 (hbs _)) HRL.out (Nat.le_trans BW.out.size (below_one _ _).size) ?_; intro v' w' hown hgr hv'; have BN := Lib.hid (below_appG (BW.out.trans ((below_one _ _).mono BW.out.size)) (HOW.out.below (below_one _ _)) hgr); have HOWN := Lib.hid hown; clear hown hgr hv'))
            go_roundw
            case rel => exact ⟨i + 1, r ++ [⟨k, i, f, (f : Int) + t, 1, u⟩], by omega, rfl, Lib.hid (by rw [List.map_append]; exact HOWN.out), Lib.hid ⟨by rw [List.length_append, HR.out.1]; rfl, smo_snoc HR.out.2 ⟨by simp only []; omega, by simp only []; omega⟩⟩, BN⟩
            case measure => simp only [intOf]; omega
          · by_cases hc0 : c = 0
            · subst hc0
              skip
              have HOW := Lib.hid (HO.out.below BE.out)
              have BW := Lib.hid (HB.out.trans (Below.mono BE.out HB.out.size))
              have hbs := fun (W : World) => Blk.made W 28 #[.int .i64 k, .int .i64 i, .int .i64 f, .int .i64 ((f : Int) + t), .int .i64 0, .int .i64 u]
              go_wp2_with (first | (refine wpList_load_row rfl 28 (.tmp 7) rfl nb rfl 28 #[.int .i64 k, .int .i64 i, .int .i64 f, .int .i64 ((f : Int) + t), .int .i64 0, .int .i64 u] (0, 0) _ HKE.out Try.underlying28 rfl (by kernel_rfl) ?_) | (refine wpList_appG info_op rfl (by omega) (by omega) Try.underlying25 rfl (.tmp 79) (.tmp 81) rfl rfl (HOW.out.below (below_one _ _)) rfl (opL_ok ⟨k, i, f, (f : Int) + t, 0, u⟩) (made_row1 (hbs _)) HRL.out (Nat.le_trans BW.out.size (below_one _ _).size) ?_; intro v' w' hown hgr hv'; have BN := Lib.hid (below_appG (BW.out.trans ((below_one _ _).mono BW.out.size)) (HOW.out.below (below_one _ _)) hgr); have HOWN := Lib.hid hown; clear hown hgr hv'))
              go_roundw
              case rel => exact ⟨i + 1, r ++ [⟨k, i, f, (f : Int) + t, 0, u⟩], by omega, rfl, Lib.hid (by rw [List.map_append]; exact HOWN.out), Lib.hid ⟨by rw [List.length_append, HR.out.1]; rfl, smo_snoc HR.out.2 ⟨by simp only []; omega, by simp only []; omega⟩⟩, BN⟩
              case measure => simp only [intOf]; omega
            · have hq1 : (c != 1) = true := by simp [hc1]
              have hq0 : (c != 0) = true := by simp [hc0]
              have qc := HKE.out.at_ 5
              have qf := HKE.out.free 5
              go_upto_region 13 with fail
              have HKF := Lib.hid (HKE.out.put 5 (.int .i64 0))
              have BF := Lib.hid (below_set (i := 5) BE.out hnb (.int .i64 0))
              clear qc qf ce
              generalize WE.setCell ⟨nb, 5, none⟩ (.int .i64 0) = WF at *
              have HOW := Lib.hid (HO.out.below BF.out)
              have BW := Lib.hid (HB.out.trans (Below.mono BF.out HB.out.size))
              have hbs := fun (W : World) => Blk.made W 28 #[.int .i64 k, .int .i64 i, .int .i64 f, .int .i64 ((f : Int) + t), .int .i64 c, .int .i64 0]
              go_wp2_with (first | (refine wpList_load_row rfl 28 (.tmp 7) rfl nb rfl 28 #[.int .i64 k, .int .i64 i, .int .i64 f, .int .i64 ((f : Int) + t), .int .i64 c, .int .i64 0] (0, 0) _ HKF.out Try.underlying28 rfl (by kernel_rfl) ?_) | (refine wpList_appG info_op rfl (by omega) (by omega) Try.underlying25 rfl (.tmp 79) (.tmp 81) rfl rfl (HOW.out.below (below_one _ _)) rfl (opL_ok ⟨k, i, f, (f : Int) + t, c, 0⟩) (made_row1 (hbs _)) HRL.out (Nat.le_trans BW.out.size (below_one _ _).size) ?_; intro v' w' hown hgr hv'; have BN := Lib.hid (below_appG (BW.out.trans ((below_one _ _).mono BW.out.size)) (HOW.out.below (below_one _ _)) hgr); have HOWN := Lib.hid hown; clear hown hgr hv'))
              go_roundw
              case rel => exact ⟨i + 1, r ++ [⟨k, i, f, (f : Int) + t, c, 0⟩], by omega, rfl, Lib.hid (by rw [List.map_append]; exact HOWN.out), Lib.hid ⟨by rw [List.length_append, HR.out.1]; rfl, smo_snoc HR.out.2 ⟨Or.inl rfl, by simp only []; omega⟩⟩, BN⟩
              case measure => simp only [intOf]; omega
    · skip
      go_simp
      have HA1 := Lib.hid (Blk.made W9 3 #[.int .i64 1, .int .i64 2])
      have HK10 := Lib.hid (HK9.out.alloc (.cells #[.int .i64 1, .int .i64 2] 3))
      have B10 := Lib.hid (B9.out.alloc B9.out.size (.cells #[.int .i64 1, .int .i64 2] 3))
      refine hK.out _ _ ⟨HXC.out _ B10.out, HK10.out.at_ 0⟩ (fun _ => ?_)
      clear hK KK
      simp only [List.getElem_toArray, List.getElem_cons_succ, List.getElem_cons_zero, Act.put, List.setIfInBounds_toArray, List.set_cons_zero, List.set_cons_succ]
      generalize W9.alloc (.cells #[.int .i64 1, .int .i64 2] 3) = W10 at *
      generalize W9.heap.size = a1 at *
      refine wpAnyH_ready (rs := [0, 2]) (by kernel_rfl) (by simp) ?_
      refine AllReadyH.cons rfl (fun KK hK => ?_) (AllReadyH.cons rfl (fun KK hK => ?_) (AllReadyH.nil))
      · skip
        go_simp
        have HA0 := Lib.hid (Blk.made W10 3 #[.int .i64 0, .int .i64 3])
        have HA1 := Lib.hid (HA1.out.alloc (.cells #[.int .i64 0, .int .i64 3] 3))
        have HK11 := Lib.hid (HK10.out.alloc (.cells #[.int .i64 0, .int .i64 3] 3))
        have B11 := Lib.hid (B10.out.alloc B10.out.size (.cells #[.int .i64 0, .int .i64 3] 3))
        refine hK.out _ _ ⟨HXC.out _ B11.out, HK11.out.at_ 0⟩ (fun _ => ?_)
        clear hK KK
        simp only [List.getElem_toArray, List.getElem_cons_succ, List.getElem_cons_zero, Act.put, List.setIfInBounds_toArray, List.set_cons_zero, List.set_cons_succ]
        generalize W10.alloc (.cells #[.int .i64 0, .int .i64 3] 3) = W11 at *
        generalize W10.heap.size = a0 at *
        refine wpAnyH_ready (rs := [2]) (by kernel_rfl) (by simp) ?_
        refine AllReadyH.cons rfl (fun KK hK => ?_) (AllReadyH.nil)
        · skip
          go_simp
          have HA2 := Lib.hid (Blk.made W11 3 #[.int .i64 1, .int .i64 4])
          have HA0 := Lib.hid (HA0.out.alloc (.cells #[.int .i64 1, .int .i64 4] 3))
          have HA1 := Lib.hid (HA1.out.alloc (.cells #[.int .i64 1, .int .i64 4] 3))
          have HK12 := Lib.hid (HK11.out.alloc (.cells #[.int .i64 1, .int .i64 4] 3))
          have B12 := Lib.hid (B11.out.alloc B11.out.size (.cells #[.int .i64 1, .int .i64 4] 3))
          refine hK.out _ _ ⟨HXC.out _ B12.out, HK12.out.at_ 0⟩ (fun _ => ?_)
          clear hK KK
          simp only [List.getElem_toArray, List.getElem_cons_succ, List.getElem_cons_zero, Act.put, List.setIfInBounds_toArray, List.set_cons_zero, List.set_cons_succ]
          generalize W11.alloc (.cells #[.int .i64 1, .int .i64 4] 3) = W12 at *
          generalize W11.heap.size = a2 at *
          refine wpAnyH_ready (rs := [3]) (by kernel_rfl) (by simp) ?_
          refine AllReadyH.cons rfl (fun KK hK => ?_) (AllReadyH.nil)
          go_simp
          have HA3 := Lib.hid (Blk.made W12 24 #[.slice (some ⟨a0, 0, none⟩) 2 2, .slice (some ⟨a1, 0, none⟩) 2 2, .slice (some ⟨a2, 0, none⟩) 2 2])
          have HA0 := Lib.hid (HA0.out.alloc (.cells #[.slice (some ⟨a0, 0, none⟩) 2 2, .slice (some ⟨a1, 0, none⟩) 2 2, .slice (some ⟨a2, 0, none⟩) 2 2] 24))
          have HA1 := Lib.hid (HA1.out.alloc (.cells #[.slice (some ⟨a0, 0, none⟩) 2 2, .slice (some ⟨a1, 0, none⟩) 2 2, .slice (some ⟨a2, 0, none⟩) 2 2] 24))
          have HA2 := Lib.hid (HA2.out.alloc (.cells #[.slice (some ⟨a0, 0, none⟩) 2 2, .slice (some ⟨a1, 0, none⟩) 2 2, .slice (some ⟨a2, 0, none⟩) 2 2] 24))
          have HK13 := Lib.hid (HK12.out.alloc (.cells #[.slice (some ⟨a0, 0, none⟩) 2 2, .slice (some ⟨a1, 0, none⟩) 2 2, .slice (some ⟨a2, 0, none⟩) 2 2] 24))
          have B13 := Lib.hid (B12.out.alloc B12.out.size (.cells #[.slice (some ⟨a0, 0, none⟩) 2 2, .slice (some ⟨a1, 0, none⟩) 2 2, .slice (some ⟨a2, 0, none⟩) 2 2] 24))
          refine hK.out _ _ ⟨HXC.out _ B13.out, HK13.out.at_ 0⟩ (fun _ => ?_)
          clear hK KK
          simp only [List.getElem_toArray, List.getElem_cons_succ, List.getElem_cons_zero, Act.put, List.setIfInBounds_toArray, List.set_cons_zero, List.set_cons_succ]
          generalize W12.alloc (.cells #[.slice (some ⟨a0, 0, none⟩) 2 2, .slice (some ⟨a1, 0, none⟩) 2 2, .slice (some ⟨a2, 0, none⟩) 2 2] 24) = W13 at *
          generalize W12.heap.size = ab at *
          obtain ⟨ac, c, hp1, hp2⟩ := pick3 HA0.out HA1.out HA2.out HA3.out HKC.out.1 HKC.out.2.2.2.2
          have k3 : (k : Int) < 3 := by have := HKC.out.1; omega
          have g2 : (g : Int) < 2 := by have := HKC.out.2.2.2.2; omega
          refine wpAnyH_ready (rs := [6]) (by kernel_rfl) (by simp) ?_
          refine AllReadyH.cons rfl (fun KK hK => ?_) (AllReadyH.nil)
          go_simp
          refine hK.out _ _ ⟨HXC.out _ B13.out, HK13.out.at_ 0⟩ (fun _ => ?_)
          clear hK KK
          simp only [List.getElem_toArray, List.getElem_cons_succ, List.getElem_cons_zero, Act.put, List.setIfInBounds_toArray, List.set_cons_zero, List.set_cons_succ]
          refine wpAnyH_ready (rs := [7]) (by kernel_rfl) (by simp) ?_
          refine AllReadyH.cons rfl (fun KK hK => ?_) (AllReadyH.nil)
          go_simp
          refine hK.out _ _ ⟨HXC.out _ B13.out, HK13.out.at_ 0⟩ (fun _ => ?_)
          clear hK KK
          simp only [List.getElem_toArray, List.getElem_cons_succ, List.getElem_cons_zero, Act.put, List.setIfInBounds_toArray, List.set_cons_zero, List.set_cons_succ]
          refine wpAnyH_ready (rs := [14]) (by kernel_rfl) (by simp) ?_
          refine AllReadyH.cons rfl (fun KK hK => ?_) (AllReadyH.nil)
          go_simp
          refine hK.out _ _ ⟨HXC.out _ B13.out, HK13.out.at_ 0⟩ (fun _ => ?_)
          clear hK KK
          simp only [List.getElem_toArray, List.getElem_cons_succ, List.getElem_cons_zero, Act.put, List.setIfInBounds_toArray, List.set_cons_zero, List.set_cons_succ]
          refine wpAnyH_ready (rs := [15]) (by kernel_rfl) (by simp) ?_
          refine AllReadyH.cons rfl (fun KK hK => ?_) (AllReadyH.nil)
          go_simp
          refine hK.out _ _ ⟨HXC.out _ B13.out, HK13.out.at_ 0⟩ (fun _ => ?_)
          clear hK KK
          simp only [List.getElem_toArray, List.getElem_cons_succ, List.getElem_cons_zero, Act.put, List.setIfInBounds_toArray, List.set_cons_zero, List.set_cons_succ]
          refine wpAnyH_ready (rs := [16]) (by kernel_rfl) (by simp) ?_
          refine AllReadyH.cons rfl (fun KK hK => ?_) (AllReadyH.nil)
          go_simp
          refine hK.out _ _ ⟨HXC.out _ B13.out, HK13.out.at_ 0⟩ (fun _ => ?_)
          clear hK KK
          simp only [List.getElem_toArray, List.getElem_cons_succ, List.getElem_cons_zero, Act.put, List.setIfInBounds_toArray, List.set_cons_zero, List.set_cons_succ]
          refine wpAnyH_ready (rs := [17]) (by kernel_rfl) (by simp) ?_
          refine AllReadyH.cons rfl (fun KK hK => ?_) (AllReadyH.nil)
          have qc : W13.cell? ⟨nb, 4, none⟩ = some (.int .i64 0) := HK13.out.at_ 4
          have qf := HK13.out.free 4
          go_simp
          have HKE := Lib.hid (show Blk (W13.setCell ⟨nb, 4, none⟩ (.int .i64 c)) nb 28 #[.int .i64 k, .int .i64 i, .int .i64 f, .int .i64 ((f : Int) + t), .int .i64 c, .int .i64 u] from HK13.out.put 4 (.int .i64 c))
          have BE := Lib.hid (below_set (i := 4) B13.out hnb (.int .i64 c))
          refine hK.out _ _ ⟨HXC.out _ BE.out, HKE.out.at_ 0⟩ (fun _ => ?_)
          clear hK KK qc qf hp1 hp2
          simp only [List.getElem_toArray, List.getElem_cons_succ, List.getElem_cons_zero, Act.put, List.setIfInBounds_toArray, List.set_cons_zero, List.set_cons_succ]
          refine wpAnyH_done (by kernel_rfl) ?_ _
          generalize W13.setCell ⟨nb, 4, none⟩ (.int .i64 c) = WE at *
          clear HA0 HA1 HA2 HA3
          have ce := HKE.out.at_ 4
          have HRL := Lib.hid (show (List.map opL r).length + 1 ≤ 1000000 by rw [List.length_map, HR.out.1]; have := H7.out; omega)
          by_cases hc1 : c = 1
          · subst hc1
            skip
            have HOW := Lib.hid (HO.out.below BE.out)
            have BW := Lib.hid (HB.out.trans (Below.mono BE.out HB.out.size))
            have hbs := fun (W : World) => Blk.made W 28 #[.int .i64 k, .int .i64 i, .int .i64 f, .int .i64 ((f : Int) + t), .int .i64 1, .int .i64 u]
            go_wp2_with (first | (refine wpList_load_row rfl 28 (.tmp 7) rfl nb rfl 28 #[.int .i64 k, .int .i64 i, .int .i64 f, .int .i64 ((f : Int) + t), .int .i64 1, .int .i64 u] (0, 0) _ HKE.out Try.underlying28 rfl (by kernel_rfl) ?_) | (refine wpList_appG info_op rfl (by omega) (by omega) Try.underlying25 rfl (.tmp 79) (.tmp 81) rfl rfl (HOW.out.below (below_one _ _)) rfl (opL_ok ⟨k, i, f, (f : Int) + t, 1, u⟩) (made_row1 (hbs _)) HRL.out (Nat.le_trans BW.out.size (below_one _ _).size) ?_; intro v' w' hown hgr hv'; have BN := Lib.hid (below_appG (BW.out.trans ((below_one _ _).mono BW.out.size)) (HOW.out.below (below_one _ _)) hgr); have HOWN := Lib.hid hown; clear hown hgr hv'))
            go_roundw
            case rel => exact ⟨i + 1, r ++ [⟨k, i, f, (f : Int) + t, 1, u⟩], by omega, rfl, Lib.hid (by rw [List.map_append]; exact HOWN.out), Lib.hid ⟨by rw [List.length_append, HR.out.1]; rfl, smo_snoc HR.out.2 ⟨by simp only []; omega, by simp only []; omega⟩⟩, BN⟩
            case measure => simp only [intOf]; omega
          · by_cases hc0 : c = 0
            · subst hc0
              skip
              have HOW := Lib.hid (HO.out.below BE.out)
              have BW := Lib.hid (HB.out.trans (Below.mono BE.out HB.out.size))
              have hbs := fun (W : World) => Blk.made W 28 #[.int .i64 k, .int .i64 i, .int .i64 f, .int .i64 ((f : Int) + t), .int .i64 0, .int .i64 u]
              go_wp2_with (first | (refine wpList_load_row rfl 28 (.tmp 7) rfl nb rfl 28 #[.int .i64 k, .int .i64 i, .int .i64 f, .int .i64 ((f : Int) + t), .int .i64 0, .int .i64 u] (0, 0) _ HKE.out Try.underlying28 rfl (by kernel_rfl) ?_) | (refine wpList_appG info_op rfl (by omega) (by omega) Try.underlying25 rfl (.tmp 79) (.tmp 81) rfl rfl (HOW.out.below (below_one _ _)) rfl (opL_ok ⟨k, i, f, (f : Int) + t, 0, u⟩) (made_row1 (hbs _)) HRL.out (Nat.le_trans BW.out.size (below_one _ _).size) ?_; intro v' w' hown hgr hv'; have BN := Lib.hid (below_appG (BW.out.trans ((below_one _ _).mono BW.out.size)) (HOW.out.below (below_one _ _)) hgr); have HOWN := Lib.hid hown; clear hown hgr hv'))
              go_roundw
              case rel => exact ⟨i + 1, r ++ [⟨k, i, f, (f : Int) + t, 0, u⟩], by omega, rfl, Lib.hid (by rw [List.map_append]; exact HOWN.out), Lib.hid ⟨by rw [List.length_append, HR.out.1]; rfl, smo_snoc HR.out.2 ⟨by simp only []; omega, by simp only []; omega⟩⟩, BN⟩
              case measure => simp only [intOf]; omega
            · have hq1 : (c != 1) = true := by simp [hc1]
              have hq0 : (c != 0) = true := by simp [hc0]
              have qc := HKE.out.at_ 5
              have qf := HKE.out.free 5
              go_upto_region 13 with fail
              have HKF := Lib.hid (HKE.out.put 5 (.int .i64 0))
              have BF := Lib.hid (below_set (i := 5) BE.out hnb (.int .i64 0))
              clear qc qf ce
              generalize WE.setCell ⟨nb, 5, none⟩ (.int .i64 0) = WF at *
              have HOW := Lib.hid (HO.out.below BF.out)
              have BW := Lib.hid (HB.out.trans (Below.mono BF.out HB.out.size))
              have hbs := fun (W : World) => Blk.made W 28 #[.int .i64 k, .int .i64 i, .int .i64 f, .int .i64 ((f : Int) + t), .int .i64 c, .int .i64 0]
              go_wp2_with (first | (refine wpList_load_row rfl 28 (.tmp 7) rfl nb rfl 28 #[.int .i64 k, .int .i64 i, .int .i64 f, .int .i64 ((f : Int) + t), .int .i64 c, .int .i64 0] (0, 0) _ HKF.out Try.underlying28 rfl (by kernel_rfl) ?_) | (refine wpList_appG info_op rfl (by omega) (by omega) Try.underlying25 rfl (.tmp 79) (.tmp 81) rfl rfl (HOW.out.below (below_one _ _)) rfl (opL_ok ⟨k, i, f, (f : Int) + t, c, 0⟩) (made_row1 (hbs _)) HRL.out (Nat.le_trans BW.out.size (below_one _ _).size) ?_; intro v' w' hown hgr hv'; have BN := Lib.hid (below_appG (BW.out.trans ((below_one _ _).mono BW.out.size)) (HOW.out.below (below_one _ _)) hgr); have HOWN := Lib.hid hown; clear hown hgr hv'))
              go_roundw
              case rel => exact ⟨i + 1, r ++ [⟨k, i, f, (f : Int) + t, c, 0⟩], by omega, rfl, Lib.hid (by rw [List.map_append]; exact HOWN.out), Lib.hid ⟨by rw [List.length_append, HR.out.1]; rfl, smo_snoc HR.out.2 ⟨Or.inl rfl, by simp only []; omega⟩⟩, BN⟩
              case measure => simp only [intOf]; omega
      · skip
        go_simp
        have HA2 := Lib.hid (Blk.made W10 3 #[.int .i64 1, .int .i64 4])
        have HA1 := Lib.hid (HA1.out.alloc (.cells #[.int .i64 1, .int .i64 4] 3))
        have HK11 := Lib.hid (HK10.out.alloc (.cells #[.int .i64 1, .int .i64 4] 3))
        have B11 := Lib.hid (B10.out.alloc B10.out.size (.cells #[.int .i64 1, .int .i64 4] 3))
        refine hK.out _ _ ⟨HXC.out _ B11.out, HK11.out.at_ 0⟩ (fun _ => ?_)
        clear hK KK
        simp only [List.getElem_toArray, List.getElem_cons_succ, List.getElem_cons_zero, Act.put, List.setIfInBounds_toArray, List.set_cons_zero, List.set_cons_succ]
        generalize W10.alloc (.cells #[.int .i64 1, .int .i64 4] 3) = W11 at *
        generalize W10.heap.size = a2 at *
        refine wpAnyH_ready (rs := [0]) (by kernel_rfl) (by simp) ?_
        refine AllReadyH.cons rfl (fun KK hK => ?_) (AllReadyH.nil)
        · skip
          go_simp
          have HA0 := Lib.hid (Blk.made W11 3 #[.int .i64 0, .int .i64 3])
          have HA1 := Lib.hid (HA1.out.alloc (.cells #[.int .i64 0, .int .i64 3] 3))
          have HA2 := Lib.hid (HA2.out.alloc (.cells #[.int .i64 0, .int .i64 3] 3))
          have HK12 := Lib.hid (HK11.out.alloc (.cells #[.int .i64 0, .int .i64 3] 3))
          have B12 := Lib.hid (B11.out.alloc B11.out.size (.cells #[.int .i64 0, .int .i64 3] 3))
          refine hK.out _ _ ⟨HXC.out _ B12.out, HK12.out.at_ 0⟩ (fun _ => ?_)
          clear hK KK
          simp only [List.getElem_toArray, List.getElem_cons_succ, List.getElem_cons_zero, Act.put, List.setIfInBounds_toArray, List.set_cons_zero, List.set_cons_succ]
          generalize W11.alloc (.cells #[.int .i64 0, .int .i64 3] 3) = W12 at *
          generalize W11.heap.size = a0 at *
          refine wpAnyH_ready (rs := [3]) (by kernel_rfl) (by simp) ?_
          refine AllReadyH.cons rfl (fun KK hK => ?_) (AllReadyH.nil)
          go_simp
          have HA3 := Lib.hid (Blk.made W12 24 #[.slice (some ⟨a0, 0, none⟩) 2 2, .slice (some ⟨a1, 0, none⟩) 2 2, .slice (some ⟨a2, 0, none⟩) 2 2])
          have HA0 := Lib.hid (HA0.out.alloc (.cells #[.slice (some ⟨a0, 0, none⟩) 2 2, .slice (some ⟨a1, 0, none⟩) 2 2, .slice (some ⟨a2, 0, none⟩) 2 2] 24))
          have HA1 := Lib.hid (HA1.out.alloc (.cells #[.slice (some ⟨a0, 0, none⟩) 2 2, .slice (some ⟨a1, 0, none⟩) 2 2, .slice (some ⟨a2, 0, none⟩) 2 2] 24))
          have HA2 := Lib.hid (HA2.out.alloc (.cells #[.slice (some ⟨a0, 0, none⟩) 2 2, .slice (some ⟨a1, 0, none⟩) 2 2, .slice (some ⟨a2, 0, none⟩) 2 2] 24))
          have HK13 := Lib.hid (HK12.out.alloc (.cells #[.slice (some ⟨a0, 0, none⟩) 2 2, .slice (some ⟨a1, 0, none⟩) 2 2, .slice (some ⟨a2, 0, none⟩) 2 2] 24))
          have B13 := Lib.hid (B12.out.alloc B12.out.size (.cells #[.slice (some ⟨a0, 0, none⟩) 2 2, .slice (some ⟨a1, 0, none⟩) 2 2, .slice (some ⟨a2, 0, none⟩) 2 2] 24))
          refine hK.out _ _ ⟨HXC.out _ B13.out, HK13.out.at_ 0⟩ (fun _ => ?_)
          clear hK KK
          simp only [List.getElem_toArray, List.getElem_cons_succ, List.getElem_cons_zero, Act.put, List.setIfInBounds_toArray, List.set_cons_zero, List.set_cons_succ]
          generalize W12.alloc (.cells #[.slice (some ⟨a0, 0, none⟩) 2 2, .slice (some ⟨a1, 0, none⟩) 2 2, .slice (some ⟨a2, 0, none⟩) 2 2] 24) = W13 at *
          generalize W12.heap.size = ab at *
          obtain ⟨ac, c, hp1, hp2⟩ := pick3 HA0.out HA1.out HA2.out HA3.out HKC.out.1 HKC.out.2.2.2.2
          have k3 : (k : Int) < 3 := by have := HKC.out.1; omega
          have g2 : (g : Int) < 2 := by have := HKC.out.2.2.2.2; omega
          refine wpAnyH_ready (rs := [6]) (by kernel_rfl) (by simp) ?_
          refine AllReadyH.cons rfl (fun KK hK => ?_) (AllReadyH.nil)
          go_simp
          refine hK.out _ _ ⟨HXC.out _ B13.out, HK13.out.at_ 0⟩ (fun _ => ?_)
          clear hK KK
          simp only [List.getElem_toArray, List.getElem_cons_succ, List.getElem_cons_zero, Act.put, List.setIfInBounds_toArray, List.set_cons_zero, List.set_cons_succ]
          refine wpAnyH_ready (rs := [7]) (by kernel_rfl) (by simp) ?_
          refine AllReadyH.cons rfl (fun KK hK => ?_) (AllReadyH.nil)
          go_simp
          refine hK.out _ _ ⟨HXC.out _ B13.out, HK13.out.at_ 0⟩ (fun _ => ?_)
          clear hK KK
          simp only [List.getElem_toArray, List.getElem_cons_succ, List.getElem_cons_zero, Act.put, List.setIfInBounds_toArray, List.set_cons_zero, List.set_cons_succ]
          refine wpAnyH_ready (rs := [14]) (by kernel_rfl) (by simp) ?_
          refine AllReadyH.cons rfl (fun KK hK => ?_) (AllReadyH.nil)
          go_simp
          refine hK.out _ _ ⟨HXC.out _ B13.out, HK13.out.at_ 0⟩ (fun _ => ?_)
          clear hK KK
          simp only [List.getElem_toArray, List.getElem_cons_succ, List.getElem_cons_zero, Act.put, List.setIfInBounds_toArray, List.set_cons_zero, List.set_cons_succ]
          refine wpAnyH_ready (rs := [15]) (by kernel_rfl) (by simp) ?_
          refine AllReadyH.cons rfl (fun KK hK => ?_) (AllReadyH.nil)
          go_simp
          refine hK.out _ _ ⟨HXC.out _ B13.out, HK13.out.at_ 0⟩ (fun _ => ?_)
          clear hK KK
          simp only [List.getElem_toArray, List.getElem_cons_succ, List.getElem_cons_zero, Act.put, List.setIfInBounds_toArray, List.set_cons_zero, List.set_cons_succ]
          refine wpAnyH_ready (rs := [16]) (by kernel_rfl) (by simp) ?_
          refine AllReadyH.cons rfl (fun KK hK => ?_) (AllReadyH.nil)
          go_simp
          refine hK.out _ _ ⟨HXC.out _ B13.out, HK13.out.at_ 0⟩ (fun _ => ?_)
          clear hK KK
          simp only [List.getElem_toArray, List.getElem_cons_succ, List.getElem_cons_zero, Act.put, List.setIfInBounds_toArray, List.set_cons_zero, List.set_cons_succ]
          refine wpAnyH_ready (rs := [17]) (by kernel_rfl) (by simp) ?_
          refine AllReadyH.cons rfl (fun KK hK => ?_) (AllReadyH.nil)
          have qc : W13.cell? ⟨nb, 4, none⟩ = some (.int .i64 0) := HK13.out.at_ 4
          have qf := HK13.out.free 4
          go_simp
          have HKE := Lib.hid (show Blk (W13.setCell ⟨nb, 4, none⟩ (.int .i64 c)) nb 28 #[.int .i64 k, .int .i64 i, .int .i64 f, .int .i64 ((f : Int) + t), .int .i64 c, .int .i64 u] from HK13.out.put 4 (.int .i64 c))
          have BE := Lib.hid (below_set (i := 4) B13.out hnb (.int .i64 c))
          refine hK.out _ _ ⟨HXC.out _ BE.out, HKE.out.at_ 0⟩ (fun _ => ?_)
          clear hK KK qc qf hp1 hp2
          simp only [List.getElem_toArray, List.getElem_cons_succ, List.getElem_cons_zero, Act.put, List.setIfInBounds_toArray, List.set_cons_zero, List.set_cons_succ]
          refine wpAnyH_done (by kernel_rfl) ?_ _
          generalize W13.setCell ⟨nb, 4, none⟩ (.int .i64 c) = WE at *
          clear HA0 HA1 HA2 HA3
          have ce := HKE.out.at_ 4
          have HRL := Lib.hid (show (List.map opL r).length + 1 ≤ 1000000 by rw [List.length_map, HR.out.1]; have := H7.out; omega)
          by_cases hc1 : c = 1
          · subst hc1
            skip
            have HOW := Lib.hid (HO.out.below BE.out)
            have BW := Lib.hid (HB.out.trans (Below.mono BE.out HB.out.size))
            have hbs := fun (W : World) => Blk.made W 28 #[.int .i64 k, .int .i64 i, .int .i64 f, .int .i64 ((f : Int) + t), .int .i64 1, .int .i64 u]
            go_wp2_with (first | (refine wpList_load_row rfl 28 (.tmp 7) rfl nb rfl 28 #[.int .i64 k, .int .i64 i, .int .i64 f, .int .i64 ((f : Int) + t), .int .i64 1, .int .i64 u] (0, 0) _ HKE.out Try.underlying28 rfl (by kernel_rfl) ?_) | (refine wpList_appG info_op rfl (by omega) (by omega) Try.underlying25 rfl (.tmp 79) (.tmp 81) rfl rfl (HOW.out.below (below_one _ _)) rfl (opL_ok ⟨k, i, f, (f : Int) + t, 1, u⟩) (made_row1 (hbs _)) HRL.out (Nat.le_trans BW.out.size (below_one _ _).size) ?_; intro v' w' hown hgr hv'; have BN := Lib.hid (below_appG (BW.out.trans ((below_one _ _).mono BW.out.size)) (HOW.out.below (below_one _ _)) hgr); have HOWN := Lib.hid hown; clear hown hgr hv'))
            go_roundw
            case rel => exact ⟨i + 1, r ++ [⟨k, i, f, (f : Int) + t, 1, u⟩], by omega, rfl, Lib.hid (by rw [List.map_append]; exact HOWN.out), Lib.hid ⟨by rw [List.length_append, HR.out.1]; rfl, smo_snoc HR.out.2 ⟨by simp only []; omega, by simp only []; omega⟩⟩, BN⟩
            case measure => simp only [intOf]; omega
          · by_cases hc0 : c = 0
            · subst hc0
              skip
              have HOW := Lib.hid (HO.out.below BE.out)
              have BW := Lib.hid (HB.out.trans (Below.mono BE.out HB.out.size))
              have hbs := fun (W : World) => Blk.made W 28 #[.int .i64 k, .int .i64 i, .int .i64 f, .int .i64 ((f : Int) + t), .int .i64 0, .int .i64 u]
              go_wp2_with (first | (refine wpList_load_row rfl 28 (.tmp 7) rfl nb rfl 28 #[.int .i64 k, .int .i64 i, .int .i64 f, .int .i64 ((f : Int) + t), .int .i64 0, .int .i64 u] (0, 0) _ HKE.out Try.underlying28 rfl (by kernel_rfl) ?_) | (refine wpList_appG info_op rfl (by omega) (by omega) Try.underlying25 rfl (.tmp 79) (.tmp 81) rfl rfl (HOW.out.below (below_one _ _)) rfl (opL_ok ⟨k, i, f, (f : Int) + t, 0, u⟩) (made_row1 (hbs _)) HRL.out (Nat.le_trans BW.out.size (below_one _ _).size) ?_; intro v' w' hown hgr hv'; have BN := Lib.hid (below_appG (BW.out.trans ((below_one _ _).mono BW.out.size)) (HOW.out.below (below_one _ _)) hgr); have HOWN := Lib.hid hown; clear hown hgr hv'))
              go_roundw
              case rel => exact ⟨i + 1, r ++ [⟨k, i, f, (f : Int) + t, 0, u⟩], by omega, rfl, Lib.hid (by rw [List.map_append]; exact HOWN.out), Lib.hid ⟨by rw [List.length_append, HR.out.1]; rfl, smo_snoc HR.out.2 ⟨by simp only []; omega, by simp only []; omega⟩⟩, BN⟩
              case measure => simp only [intOf]; omega
            · have hq1 : (c != 1) = true := by simp [hc1]
              have hq0 : (c != 0) = true := by simp [hc0]
              have qc := HKE.out.at_ 5
              have qf := HKE.out.free 5
              go_upto_region 13 with fail
              have HKF := Lib.hid (HKE.out.put 5 (.int .i64 0))
              have BF := Lib.hid (below_set (i := 5) BE.out hnb (.int .i64 0))
              clear qc qf ce
              generalize WE.setCell ⟨nb, 5, none⟩ (.int .i64 0) = WF at *
              have HOW := Lib.hid (HO.out.below BF.out)
              have BW := Lib.hid (HB.out.trans (Below.mono BF.out HB.out.size))
              have hbs := fun (W : World) => Blk.made W 28 #[.int .i64 k, .int .i64 i, .int .i64 f, .int .i64 ((f : Int) + t), .int .i64 c, .int .i64 0]
              go_wp2_with (first | (refine wpList_load_row rfl 28 (.tmp 7) rfl nb rfl 28 #[.int .i64 k, .int .i64 i, .int .i64 f, .int .i64 ((f : Int) + t), .int .i64 c, .int .i64 0] (0, 0) _ HKF.out Try.underlying28 rfl (by kernel_rfl) ?_) | (refine wpList_appG info_op rfl (by omega) (by omega) Try.underlying25 rfl (.tmp 79) (.tmp 81) rfl rfl (HOW.out.below (below_one _ _)) rfl (opL_ok ⟨k, i, f, (f : Int) + t, c, 0⟩) (made_row1 (hbs _)) HRL.out (Nat.le_trans BW.out.size (below_one _ _).size) ?_; intro v' w' hown hgr hv'; have BN := Lib.hid (below_appG (BW.out.trans ((below_one _ _).mono BW.out.size)) (HOW.out.below (below_one _ _)) hgr); have HOWN := Lib.hid hown; clear hown hgr hv'))
              go_roundw
              case rel => exact ⟨i + 1, r ++ [⟨k, i, f, (f : Int) + t, c, 0⟩], by omega, rfl, Lib.hid (by rw [List.map_append]; exact HOWN.out), Lib.hid ⟨by rw [List.length_append, HR.out.1]; rfl, smo_snoc HR.out.2 ⟨Or.inl rfl, by simp only []; omega⟩⟩, BN⟩
              case measure => simp only [intOf]; omega
    · skip
      go_simp
      have HA2 := Lib.hid (Blk.made W9 3 #[.int .i64 1, .int .i64 4])
      have HK10 := Lib.hid (HK9.out.alloc (.cells #[.int .i64 1, .int .i64 4] 3))
      have B10 := Lib.hid (B9.out.alloc B9.out.size (.cells #[.int .i64 1, .int .i64 4] 3))
      refine hK.out _ _ ⟨HXC.out _ B10.out, HK10.out.at_ 0⟩ (fun _ => ?_)
      clear hK KK
      simp only [List.getElem_toArray, List.getElem_cons_succ, List.getElem_cons_zero, Act.put, List.setIfInBounds_toArray, List.set_cons_zero, List.set_cons_succ]
      generalize W9.alloc (.cells #[.int .i64 1, .int .i64 4] 3) = W10 at *
      generalize W9.heap.size = a2 at *
      refine wpAnyH_ready (rs := [0, 1]) (by kernel_rfl) (by simp) ?_
      refine AllReadyH.cons rfl (fun KK hK => ?_) (AllReadyH.cons rfl (fun KK hK => ?_) (AllReadyH.nil))
      · skip
        go_simp
        have HA0 := Lib.hid (Blk.made W10 3 #[.int .i64 0, .int .i64 3])
        have HA2 := Lib.hid (HA2.out.alloc (.cells #[.int .i64 0, .int .i64 3] 3))
        have HK11 := Lib.hid (HK10.out.alloc (.cells #[.int .i64 0, .int .i64 3] 3))
        have B11 := Lib.hid (B10.out.alloc B10.out.size (.cells #[.int .i64 0, .int .i64 3] 3))
        refine hK.out _ _ ⟨HXC.out _ B11.out, HK11.out.at_ 0⟩ (fun _ => ?_)
        clear hK KK
        simp only [List.getElem_toArray, List.getElem_cons_succ, List.getElem_cons_zero, Act.put, List.setIfInBounds_toArray, List.set_cons_zero, List.set_cons_succ]
        generalize W10.alloc (.cells #[.int .i64 0, .int .i64 3] 3) = W11 at *
        generalize W10.heap.size = a0 at *
        refine wpAnyH_ready (rs := [1]) (by kernel_rfl) (by simp) ?_
        refine AllReadyH.cons rfl (fun KK hK => ?_) (AllReadyH.nil)
        · skip
          go_simp
          have HA1 := Lib.hid (Blk.made W11 3 #[.int .i64 1, .int .i64 2])
          have HA0 := Lib.hid (HA0.out.alloc (.cells #[.int .i64 1, .int .i64 2] 3))
          have HA2 := Lib.hid (HA2.out.alloc (.cells #[.int .i64 1, .int .i64 2] 3))
          have HK12 := Lib.hid (HK11.out.alloc (.cells #[.int .i64 1, .int .i64 2] 3))
          have B12 := Lib.hid (B11.out.alloc B11.out.size (.cells #[.int .i64 1, .int .i64 2] 3))
          refine hK.out _ _ ⟨HXC.out _ B12.out, HK12.out.at_ 0⟩ (fun _ => ?_)
          clear hK KK
          simp only [List.getElem_toArray, List.getElem_cons_succ, List.getElem_cons_zero, Act.put, List.setIfInBounds_toArray, List.set_cons_zero, List.set_cons_succ]
          generalize W11.alloc (.cells #[.int .i64 1, .int .i64 2] 3) = W12 at *
          generalize W11.heap.size = a1 at *
          refine wpAnyH_ready (rs := [3]) (by kernel_rfl) (by simp) ?_
          refine AllReadyH.cons rfl (fun KK hK => ?_) (AllReadyH.nil)
          go_simp
          have HA3 := Lib.hid (Blk.made W12 24 #[.slice (some ⟨a0, 0, none⟩) 2 2, .slice (some ⟨a1, 0, none⟩) 2 2, .slice (some ⟨a2, 0, none⟩) 2 2])
          have HA0 := Lib.hid (HA0.out.alloc (.cells #[.slice (some ⟨a0, 0, none⟩) 2 2, .slice (some ⟨a1, 0, none⟩) 2 2, .slice (some ⟨a2, 0, none⟩) 2 2] 24))
          have HA1 := Lib.hid (HA1.out.alloc (.cells #[.slice (some ⟨a0, 0, none⟩) 2 2, .slice (some ⟨a1, 0, none⟩) 2 2, .slice (some ⟨a2, 0, none⟩) 2 2] 24))
          have HA2 := Lib.hid (HA2.out.alloc (.cells #[.slice (some ⟨a0, 0, none⟩) 2 2, .slice (some ⟨a1, 0, none⟩) 2 2, .slice (some ⟨a2, 0, none⟩) 2 2] 24))
          have HK13 := Lib.hid (HK12.out.alloc (.cells #[.slice (some ⟨a0, 0, none⟩) 2 2, .slice (some ⟨a1, 0, none⟩) 2 2, .slice (some ⟨a2, 0, none⟩) 2 2] 24))
          have B13 := Lib.hid (B12.out.alloc B12.out.size (.cells #[.slice (some ⟨a0, 0, none⟩) 2 2, .slice (some ⟨a1, 0, none⟩) 2 2, .slice (some ⟨a2, 0, none⟩) 2 2] 24))
          refine hK.out _ _ ⟨HXC.out _ B13.out, HK13.out.at_ 0⟩ (fun _ => ?_)
          clear hK KK
          simp only [List.getElem_toArray, List.getElem_cons_succ, List.getElem_cons_zero, Act.put, List.setIfInBounds_toArray, List.set_cons_zero, List.set_cons_succ]
          generalize W12.alloc (.cells #[.slice (some ⟨a0, 0, none⟩) 2 2, .slice (some ⟨a1, 0, none⟩) 2 2, .slice (some ⟨a2, 0, none⟩) 2 2] 24) = W13 at *
          generalize W12.heap.size = ab at *
          obtain ⟨ac, c, hp1, hp2⟩ := pick3 HA0.out HA1.out HA2.out HA3.out HKC.out.1 HKC.out.2.2.2.2
          have k3 : (k : Int) < 3 := by have := HKC.out.1; omega
          have g2 : (g : Int) < 2 := by have := HKC.out.2.2.2.2; omega
          refine wpAnyH_ready (rs := [6]) (by kernel_rfl) (by simp) ?_
          refine AllReadyH.cons rfl (fun KK hK => ?_) (AllReadyH.nil)
          go_simp
          refine hK.out _ _ ⟨HXC.out _ B13.out, HK13.out.at_ 0⟩ (fun _ => ?_)
          clear hK KK
          simp only [List.getElem_toArray, List.getElem_cons_succ, List.getElem_cons_zero, Act.put, List.setIfInBounds_toArray, List.set_cons_zero, List.set_cons_succ]
          refine wpAnyH_ready (rs := [7]) (by kernel_rfl) (by simp) ?_
          refine AllReadyH.cons rfl (fun KK hK => ?_) (AllReadyH.nil)
          go_simp
          refine hK.out _ _ ⟨HXC.out _ B13.out, HK13.out.at_ 0⟩ (fun _ => ?_)
          clear hK KK
          simp only [List.getElem_toArray, List.getElem_cons_succ, List.getElem_cons_zero, Act.put, List.setIfInBounds_toArray, List.set_cons_zero, List.set_cons_succ]
          refine wpAnyH_ready (rs := [14]) (by kernel_rfl) (by simp) ?_
          refine AllReadyH.cons rfl (fun KK hK => ?_) (AllReadyH.nil)
          go_simp
          refine hK.out _ _ ⟨HXC.out _ B13.out, HK13.out.at_ 0⟩ (fun _ => ?_)
          clear hK KK
          simp only [List.getElem_toArray, List.getElem_cons_succ, List.getElem_cons_zero, Act.put, List.setIfInBounds_toArray, List.set_cons_zero, List.set_cons_succ]
          refine wpAnyH_ready (rs := [15]) (by kernel_rfl) (by simp) ?_
          refine AllReadyH.cons rfl (fun KK hK => ?_) (AllReadyH.nil)
          go_simp
          refine hK.out _ _ ⟨HXC.out _ B13.out, HK13.out.at_ 0⟩ (fun _ => ?_)
          clear hK KK
          simp only [List.getElem_toArray, List.getElem_cons_succ, List.getElem_cons_zero, Act.put, List.setIfInBounds_toArray, List.set_cons_zero, List.set_cons_succ]
          refine wpAnyH_ready (rs := [16]) (by kernel_rfl) (by simp) ?_
          refine AllReadyH.cons rfl (fun KK hK => ?_) (AllReadyH.nil)
          go_simp
          refine hK.out _ _ ⟨HXC.out _ B13.out, HK13.out.at_ 0⟩ (fun _ => ?_)
          clear hK KK
          simp only [List.getElem_toArray, List.getElem_cons_succ, List.getElem_cons_zero, Act.put, List.setIfInBounds_toArray, List.set_cons_zero, List.set_cons_succ]
          refine wpAnyH_ready (rs := [17]) (by kernel_rfl) (by simp) ?_
          refine AllReadyH.cons rfl (fun KK hK => ?_) (AllReadyH.nil)
          have qc : W13.cell? ⟨nb, 4, none⟩ = some (.int .i64 0) := HK13.out.at_ 4
          have qf := HK13.out.free 4
          go_simp
          have HKE := Lib.hid (show Blk (W13.setCell ⟨nb, 4, none⟩ (.int .i64 c)) nb 28 #[.int .i64 k, .int .i64 i, .int .i64 f, .int .i64 ((f : Int) + t), .int .i64 c, .int .i64 u] from HK13.out.put 4 (.int .i64 c))
          have BE := Lib.hid (below_set (i := 4) B13.out hnb (.int .i64 c))
          refine hK.out _ _ ⟨HXC.out _ BE.out, HKE.out.at_ 0⟩ (fun _ => ?_)
          clear hK KK qc qf hp1 hp2
          simp only [List.getElem_toArray, List.getElem_cons_succ, List.getElem_cons_zero, Act.put, List.setIfInBounds_toArray, List.set_cons_zero, List.set_cons_succ]
          refine wpAnyH_done (by kernel_rfl) ?_ _
          generalize W13.setCell ⟨nb, 4, none⟩ (.int .i64 c) = WE at *
          clear HA0 HA1 HA2 HA3
          have ce := HKE.out.at_ 4
          have HRL := Lib.hid (show (List.map opL r).length + 1 ≤ 1000000 by rw [List.length_map, HR.out.1]; have := H7.out; omega)
          by_cases hc1 : c = 1
          · subst hc1
            skip
            have HOW := Lib.hid (HO.out.below BE.out)
            have BW := Lib.hid (HB.out.trans (Below.mono BE.out HB.out.size))
            have hbs := fun (W : World) => Blk.made W 28 #[.int .i64 k, .int .i64 i, .int .i64 f, .int .i64 ((f : Int) + t), .int .i64 1, .int .i64 u]
            go_wp2_with (first | (refine wpList_load_row rfl 28 (.tmp 7) rfl nb rfl 28 #[.int .i64 k, .int .i64 i, .int .i64 f, .int .i64 ((f : Int) + t), .int .i64 1, .int .i64 u] (0, 0) _ HKE.out Try.underlying28 rfl (by kernel_rfl) ?_) | (refine wpList_appG info_op rfl (by omega) (by omega) Try.underlying25 rfl (.tmp 79) (.tmp 81) rfl rfl (HOW.out.below (below_one _ _)) rfl (opL_ok ⟨k, i, f, (f : Int) + t, 1, u⟩) (made_row1 (hbs _)) HRL.out (Nat.le_trans BW.out.size (below_one _ _).size) ?_; intro v' w' hown hgr hv'; have BN := Lib.hid (below_appG (BW.out.trans ((below_one _ _).mono BW.out.size)) (HOW.out.below (below_one _ _)) hgr); have HOWN := Lib.hid hown; clear hown hgr hv'))
            go_roundw
            case rel => exact ⟨i + 1, r ++ [⟨k, i, f, (f : Int) + t, 1, u⟩], by omega, rfl, Lib.hid (by rw [List.map_append]; exact HOWN.out), Lib.hid ⟨by rw [List.length_append, HR.out.1]; rfl, smo_snoc HR.out.2 ⟨by simp only []; omega, by simp only []; omega⟩⟩, BN⟩
            case measure => simp only [intOf]; omega
          · by_cases hc0 : c = 0
            · subst hc0
              skip
              have HOW := Lib.hid (HO.out.below BE.out)
              have BW := Lib.hid (HB.out.trans (Below.mono BE.out HB.out.size))
              have hbs := fun (W : World) => Blk.made W 28 #[.int .i64 k, .int .i64 i, .int .i64 f, .int .i64 ((f : Int) + t), .int .i64 0, .int .i64 u]
              go_wp2_with (first | (refine wpList_load_row rfl 28 (.tmp 7) rfl nb rfl 28 #[.int .i64 k, .int .i64 i, .int .i64 f, .int .i64 ((f : Int) + t), .int .i64 0, .int .i64 u] (0, 0) _ HKE.out Try.underlying28 rfl (by kernel_rfl) ?_) | (refine wpList_appG info_op rfl (by omega) (by omega) Try.underlying25 rfl (.tmp 79) (.tmp 81) rfl rfl (HOW.out.below (below_one _ _)) rfl (opL_ok ⟨k, i, f, (f : Int) + t, 0, u⟩) (made_row1 (hbs _)) HRL.out (Nat.le_trans BW.out.size (below_one _ _).size) ?_; intro v' w' hown hgr hv'; have BN := Lib.hid (below_appG (BW.out.trans ((below_one _ _).mono BW.out.size)) (HOW.out.below (below_one _ _)) hgr); have HOWN := Lib.hid hown; clear hown hgr hv'))
              go_roundw
              case rel => exact ⟨i + 1, r ++ [⟨k, i, f, (f : Int) + t, 0, u⟩], by omega, rfl, Lib.hid (by rw [List.map_append]; exact HOWN.out), Lib.hid ⟨by rw [List.length_append, HR.out.1]; rfl, smo_snoc HR.out.2 ⟨by simp only []; omega, by simp only []; omega⟩⟩, BN⟩
              case measure => simp only [intOf]; omega
            · have hq1 : (c != 1) = true := by simp [hc1]
              have hq0 : (c != 0) = true := by simp [hc0]
              have qc := HKE.out.at_ 5
              have qf := HKE.out.free 5
              go_upto_region 13 with fail
              have HKF := Lib.hid (HKE.out.put 5 (.int .i64 0))
              have BF := Lib.hid (below_set (i := 5) BE.out hnb (.int .i64 0))
              clear qc qf ce
              generalize WE.setCell ⟨nb, 5, none⟩ (.int .i64 0) = WF at *
              have HOW := Lib.hid (HO.out.below BF.out)
              have BW := Lib.hid (HB.out.trans (Below.mono BF.out HB.out.size))
              have hbs := fun (W : World) => Blk.made W 28 #[.int .i64 k, .int .i64 i, .int .i64 f, .int .i64 ((f : Int) + t), .int .i64 c, .int .i64 0]
              go_wp2_with (first | (refine wpList_load_row rfl 28 (.tmp 7) rfl nb rfl 28 #[.int .i64 k, .int .i64 i, .int .i64 f, .int .i64 ((f : Int) + t), .int .i64 c, .int .i64 0] (0, 0) _ HKF.out Try.underlying28 rfl (by kernel_rfl) ?_) | (refine wpList_appG info_op rfl (by omega) (by omega) Try.underlying25 rfl (.tmp 79) (.tmp 81) rfl rfl (HOW.out.below (below_one _ _)) rfl (opL_ok ⟨k, i, f, (f : Int) + t, c, 0⟩) (made_row1 (hbs _)) HRL.out (Nat.le_trans BW.out.size (below_one _ _).size) ?_; intro v' w' hown hgr hv'; have BN := Lib.hid (below_appG (BW.out.trans ((below_one _ _).mono BW.out.size)) (HOW.out.below (below_one _ _)) hgr); have HOWN := Lib.hid hown; clear hown hgr hv'))
              go_roundw
              case rel => exact ⟨i + 1, r ++ [⟨k, i, f, (f : Int) + t, c, 0⟩], by omega, rfl, Lib.hid (by rw [List.map_append]; exact HOWN.out), Lib.hid ⟨by rw [List.length_append, HR.out.1]; rfl, smo_snoc HR.out.2 ⟨Or.inl rfl, by simp only []; omega⟩⟩, BN⟩
              case measure => simp only [intOf]; omega
      · skip
        go_simp
        have HA1 := Lib.hid (Blk.made W10 3 #[.int .i64 1, .int .i64 2])
        have HA2 := Lib.hid (HA2.out.alloc (.cells #[.int .i64 1, .int .i64 2] 3))
        have HK11 := Lib.hid (HK10.out.alloc (.cells #[.int .i64 1, .int .i64 2] 3))
        have B11 := Lib.hid (B10.out.alloc B10.out.size (.cells #[.int .i64 1, .int .i64 2] 3))
        refine hK.out _ _ ⟨HXC.out _ B11.out, HK11.out.at_ 0⟩ (fun _ => ?_)
        clear hK KK
        simp only [List.getElem_toArray, List.getElem_cons_succ, List.getElem_cons_zero, Act.put, List.setIfInBounds_toArray, List.set_cons_zero, List.set_cons_succ]
        generalize W10.alloc (.cells #[.int .i64 1, .int .i64 2] 3) = W11 at *
        generalize W10.heap.size = a1 at *
        refine wpAnyH_ready (rs := [0]) (by kernel_rfl) (by simp) ?_
        refine AllReadyH.cons rfl (fun KK hK => ?_) (AllReadyH.nil)
        · skip
          go_simp
          have HA0 := Lib.hid (Blk.made W11 3 #[.int .i64 0, .int .i64 3])
          have HA1 := Lib.hid (HA1.out.alloc (.cells #[.int .i64 0, .int .i64 3] 3))
          have HA2 := Lib.hid (HA2.out.alloc (.cells #[.int .i64 0, .int .i64 3] 3))
          have HK12 := Lib.hid (HK11.out.alloc (.cells #[.int .i64 0, .int .i64 3] 3))
          have B12 := Lib.hid (B11.out.alloc B11.out.size (.cells #[.int .i64 0, .int .i64 3] 3))
          refine hK.out _ _ ⟨HXC.out _ B12.out, HK12.out.at_ 0⟩ (fun _ => ?_)
          clear hK KK
          simp only [List.getElem_toArray, List.getElem_cons_succ, List.getElem_cons_zero, Act.put, List.setIfInBounds_toArray, List.set_cons_zero, List.set_cons_succ]
          generalize W11.alloc (.cells #[.int .i64 0, .int .i64 3] 3) = W12 at *
          generalize W11.heap.size = a0 at *
          refine wpAnyH_ready (rs := [3]) (by kernel_rfl) (by simp) ?_
          refine AllReadyH.cons rfl (fun KK hK => ?_) (AllReadyH.nil)
          go_simp
          have HA3 := Lib.hid (Blk.made W12 24 #[.slice (some ⟨a0, 0, none⟩) 2 2, .slice (some ⟨a1, 0, none⟩) 2 2, .slice (some ⟨a2, 0, none⟩) 2 2])
          have HA0 := Lib.hid (HA0.out.alloc (.cells #[.slice (some ⟨a0, 0, none⟩) 2 2, .slice (some ⟨a1, 0, none⟩) 2 2, .slice (some ⟨a2, 0, none⟩) 2 2] 24))
          have HA1 := Lib.hid (HA1.out.alloc (.cells #[.slice (some ⟨a0, 0, none⟩) 2 2, .slice (some ⟨a1, 0, none⟩) 2 2, .slice (some ⟨a2, 0, none⟩) 2 2] 24))
          have HA2 := Lib.hid (HA2.out.alloc (.cells #[.slice (some ⟨a0, 0, none⟩) 2 2, .slice (some ⟨a1, 0, none⟩) 2 2, .slice (some ⟨a2, 0, none⟩) 2 2] 24))
          have HK13 := Lib.hid (HK12.out.alloc (.cells #[.slice (some ⟨a0, 0, none⟩) 2 2, .slice (some ⟨a1, 0, none⟩) 2 2, .slice (some ⟨a2, 0, none⟩) 2 2] 24))
          have B13 := Lib.hid (B12.out.alloc B12.out.size (.cells #[.slice (some ⟨a0, 0, none⟩) 2 2, .slice (some ⟨a1, 0, none⟩) 2 2, .slice (some ⟨a2, 0, none⟩) 2 2] 24))
          refine hK.out _ _ ⟨HXC.out _ B13.out, HK13.out.at_ 0⟩ (fun _ => ?_)
          clear hK KK
          simp only [List.getElem_toArray, List.getElem_cons_succ, List.getElem_cons_zero, Act.put, List.setIfInBounds_toArray, List.set_cons_zero, List.set_cons_succ]
          generalize W12.alloc (.cells #[.slice (some ⟨a0, 0, none⟩) 2 2, .slice (some ⟨a1, 0, none⟩) 2 2, .slice (some ⟨a2, 0, none⟩) 2 2] 24) = W13 at *
          generalize W12.heap.size = ab at *
          obtain ⟨ac, c, hp1, hp2⟩ := pick3 HA0.out HA1.out HA2.out HA3.out HKC.out.1 HKC.out.2.2.2.2
          have k3 : (k : Int) < 3 := by have := HKC.out.1; omega
          have g2 : (g : Int) < 2 := by have := HKC.out.2.2.2.2; omega
          refine wpAnyH_ready (rs := [6]) (by kernel_rfl) (by simp) ?_
          refine AllReadyH.cons rfl (fun KK hK => ?_) (AllReadyH.nil)
          go_simp
          refine hK.out _ _ ⟨HXC.out _ B13.out, HK13.out.at_ 0⟩ (fun _ => ?_)
          clear hK KK
          simp only [List.getElem_toArray, List.getElem_cons_succ, List.getElem_cons_zero, Act.put, List.setIfInBounds_toArray, List.set_cons_zero, List.set_cons_succ]
          refine wpAnyH_ready (rs := [7]) (by kernel_rfl) (by simp) ?_
          refine AllReadyH.cons rfl (fun KK hK => ?_) (AllReadyH.nil)
          go_simp
          refine hK.out _ _ ⟨HXC.out _ B13.out, HK13.out.at_ 0⟩ (fun _ => ?_)
          clear hK KK
          simp only [List.getElem_toArray, List.getElem_cons_succ, List.getElem_cons_zero, Act.put, List.setIfInBounds_toArray, List.set_cons_zero, List.set_cons_succ]
          refine wpAnyH_ready (rs := [14]) (by kernel_rfl) (by simp) ?_
          refine AllReadyH.cons rfl (fun KK hK => ?_) (AllReadyH.nil)
          go_simp
          refine hK.out _ _ ⟨HXC.out _ B13.out, HK13.out.at_ 0⟩ (fun _ => ?_)
          clear hK KK
          simp only [List.getElem_toArray, List.getElem_cons_succ, List.getElem_cons_zero, Act.put, List.setIfInBounds_toArray, List.set_cons_zero, List.set_cons_succ]
          refine wpAnyH_ready (rs := [15]) (by kernel_rfl) (by simp) ?_
          refine AllReadyH.cons rfl (fun KK hK => ?_) (AllReadyH.nil)
          go_simp
          refine hK.out _ _ ⟨HXC.out _ B13.out, HK13.out.at_ 0⟩ (fun _ => ?_)
          clear hK KK
          simp only [List.getElem_toArray, List.getElem_cons_succ, List.getElem_cons_zero, Act.put, List.setIfInBounds_toArray, List.set_cons_zero, List.set_cons_succ]
          refine wpAnyH_ready (rs := [16]) (by kernel_rfl) (by simp) ?_
          refine AllReadyH.cons rfl (fun KK hK => ?_) (AllReadyH.nil)
          go_simp
          refine hK.out _ _ ⟨HXC.out _ B13.out, HK13.out.at_ 0⟩ (fun _ => ?_)
          clear hK KK
          simp only [List.getElem_toArray, List.getElem_cons_succ, List.getElem_cons_zero, Act.put, List.setIfInBounds_toArray, List.set_cons_zero, List.set_cons_succ]
          refine wpAnyH_ready (rs := [17]) (by kernel_rfl) (by simp) ?_
          refine AllReadyH.cons rfl (fun KK hK => ?_) (AllReadyH.nil)
          have qc : W13.cell? ⟨nb, 4, none⟩ = some (.int .i64 0) := HK13.out.at_ 4
          have qf := HK13.out.free 4
          go_simp
          have HKE := Lib.hid (show Blk (W13.setCell ⟨nb, 4, none⟩ (.int .i64 c)) nb 28 #[.int .i64 k, .int .i64 i, .int .i64 f, .int .i64 ((f : Int) + t), .int .i64 c, .int .i64 u] from HK13.out.put 4 (.int .i64 c))
          have BE := Lib.hid (below_set (i := 4) B13.out hnb (.int .i64 c))
          refine hK.out _ _ ⟨HXC.out _ BE.out, HKE.out.at_ 0⟩ (fun _ => ?_)
          clear hK KK qc qf hp1 hp2
          simp only [List.getElem_toArray, List.getElem_cons_succ, List.getElem_cons_zero, Act.put, List.setIfInBounds_toArray, List.set_cons_zero, List.set_cons_succ]
          refine wpAnyH_done (by kernel_rfl) ?_ _
          generalize W13.setCell ⟨nb, 4, none⟩ (.int .i64 c) = WE at *
          clear HA0 HA1 HA2 HA3
          have ce := HKE.out.at_ 4
          have HRL := Lib.hid (show (List.map opL r).length + 1 ≤ 1000000 by rw [List.length_map, HR.out.1]; have := H7.out; omega)
          by_cases hc1 : c = 1
          · subst hc1
            skip
            have HOW := Lib.hid (HO.out.below BE.out)
            have BW := Lib.hid (HB.out.trans (Below.mono BE.out HB.out.size))
            have hbs := fun (W : World) => Blk.made W 28 #[.int .i64 k, .int .i64 i, .int .i64 f, .int .i64 ((f : Int) + t), .int .i64 1, .int .i64 u]
            go_wp2_with (first | (refine wpList_load_row rfl 28 (.tmp 7) rfl nb rfl 28 #[.int .i64 k, .int .i64 i, .int .i64 f, .int .i64 ((f : Int) + t), .int .i64 1, .int .i64 u] (0, 0) _ HKE.out Try.underlying28 rfl (by kernel_rfl) ?_) | (refine wpList_appG info_op rfl (by omega) (by omega) Try.underlying25 rfl (.tmp 79) (.tmp 81) rfl rfl (HOW.out.below (below_one _ _)) rfl (opL_ok ⟨k, i, f, (f : Int) + t, 1, u⟩) (made_row1 (hbs _)) HRL.out (Nat.le_trans BW.out.size (below_one _ _).size) ?_; intro v' w' hown hgr hv'; have BN := Lib.hid (below_appG (BW.out.trans ((below_one _ _).mono BW.out.size)) (HOW.out.below (below_one _ _)) hgr); have HOWN := Lib.hid hown; clear hown hgr hv'))
            go_roundw
            case rel => exact ⟨i + 1, r ++ [⟨k, i, f, (f : Int) + t, 1, u⟩], by omega, rfl, Lib.hid (by rw [List.map_append]; exact HOWN.out), Lib.hid ⟨by rw [List.length_append, HR.out.1]; rfl, smo_snoc HR.out.2 ⟨by simp only []; omega, by simp only []; omega⟩⟩, BN⟩
            case measure => simp only [intOf]; omega
          · by_cases hc0 : c = 0
            · subst hc0
              skip
              have HOW := Lib.hid (HO.out.below BE.out)
              have BW := Lib.hid (HB.out.trans (Below.mono BE.out HB.out.size))
              have hbs := fun (W : World) => Blk.made W 28 #[.int .i64 k, .int .i64 i, .int .i64 f, .int .i64 ((f : Int) + t), .int .i64 0, .int .i64 u]
              go_wp2_with (first | (refine wpList_load_row rfl 28 (.tmp 7) rfl nb rfl 28 #[.int .i64 k, .int .i64 i, .int .i64 f, .int .i64 ((f : Int) + t), .int .i64 0, .int .i64 u] (0, 0) _ HKE.out Try.underlying28 rfl (by kernel_rfl) ?_) | (refine wpList_appG info_op rfl (by omega) (by omega) Try.underlying25 rfl (.tmp 79) (.tmp 81) rfl rfl (HOW.out.below (below_one _ _)) rfl (opL_ok ⟨k, i, f, (f : Int) + t, 0, u⟩) (made_row1 (hbs _)) HRL.out (Nat.le_trans BW.out.size (below_one _ _).size) ?_; intro v' w' hown hgr hv'; have BN := Lib.hid (below_appG (BW.out.trans ((below_one _ _).mono BW.out.size)) (HOW.out.below (below_one _ _)) hgr); have HOWN := Lib.hid hown; clear hown hgr hv'))
              go_roundw
              case rel => exact ⟨i + 1, r ++ [⟨k, i, f, (f : Int) + t, 0, u⟩], by omega, rfl, Lib.hid (by rw [List.map_append]; exact HOWN.out), Lib.hid ⟨by rw [List.length_append, HR.out.1]; rfl, smo_snoc HR.out.2 ⟨by simp only []; omega, by simp only []; omega⟩⟩, BN⟩
              case measure => simp only [intOf]; omega
            · have hq1 : (c != 1) = true := by simp [hc1]
              have hq0 : (c != 0) = true := by simp [hc0]
              have qc := HKE.out.at_ 5
              have qf := HKE.out.free 5
              go_upto_region 13 with fail
              have HKF := Lib.hid (HKE.out.put 5 (.int .i64 0))
              have BF := Lib.hid (below_set (i := 5) BE.out hnb (.int .i64 0))
              clear qc qf ce
              generalize WE.setCell ⟨nb, 5, none⟩ (.int .i64 0) = WF at *
              have HOW := Lib.hid (HO.out.below BF.out)
              have BW := Lib.hid (HB.out.trans (Below.mono BF.out HB.out.size))
              have hbs := fun (W : World) => Blk.made W 28 #[.int .i64 k, .int .i64 i, .int .i64 f, .int .i64 ((f : Int) + t), .int .i64 c, .int .i64 0]
              go_wp2_with (first | (refine wpList_load_row rfl 28 (.tmp 7) rfl nb rfl 28 #[.int .i64 k, .int .i64 i, .int .i64 f, .int .i64 ((f : Int) + t), .int .i64 c, .int .i64 0] (0, 0) _ HKF.out Try.underlying28 rfl (by kernel_rfl) ?_) | (refine wpList_appG info_op rfl (by omega) (by omega) Try.underlying25 rfl (.tmp 79) (.tmp 81) rfl rfl (HOW.out.below (below_one _ _)) rfl (opL_ok ⟨k, i, f, (f : Int) + t, c, 0⟩) (made_row1 (hbs _)) HRL.out (Nat.le_trans BW.out.size (below_one _ _).size) ?_; intro v' w' hown hgr hv'; have BN := Lib.hid (below_appG (BW.out.trans ((below_one _ _).mono BW.out.size)) (HOW.out.below (below_one _ _)) hgr); have HOWN := Lib.hid hown; clear hown hgr hv'))
              go_roundw
              case rel => exact ⟨i + 1, r ++ [⟨k, i, f, (f : Int) + t, c, 0⟩], by omega, rfl, Lib.hid (by rw [List.map_append]; exact HOWN.out), Lib.hid ⟨by rw [List.length_append, HR.out.1]; rfl, smo_snoc HR.out.2 ⟨Or.inl rfl, by simp only []; omega⟩⟩, BN⟩
              case measure => simp only [intOf]; omega
end Go.Proofs.Ytllllbepnnpeeaa
