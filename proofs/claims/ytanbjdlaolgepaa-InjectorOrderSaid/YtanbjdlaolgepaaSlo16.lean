/-
  The laws of injector: the slots of an environment as a list. (Written by wip/gen_slo.py.)
-/
import Derived.Test.YtanbjdlaolgepaaInjT
import Derived.Test.YtanbjdlaolgepaaMgAH
import Derived.Test.YtanbjdlaolgepaaMgBV
import Derived.Test.YtanbjdlaolgepaaMgAJ
import Derived.Deep.RegionHeld3
import Derived.LoopTactic
import Derived.OwnWalk
namespace Go.Proofs.Ytanbjdlaolgepaa
open Go Go.RowKit Go.Shelf
set_option linter.unusedSimpArgs false
set_option linter.unusedVariables false

theorem take_elt {l : List Int} {n : Nat} (h : n < l.length) : l.take n ++ [elt l n] = l.take (n + 1) := by
  rw [List.take_succ_eq_append_getElem h]
  unfold elt
  rw [List.getD_eq_getElem?_getD, List.getElem?_eq_getElem h]
  rfl
/-- What slots gives. -/
def SlotsG (w : World) (h : List Int) (e : Ending) (w' : World) : Prop := ∃ v, e = .returned v ∧ OwnW w' w.heap.size v h ∧ Below w.heap.size w w'
/-- What its loop keeps. -/
def SloR (w : World) (c : Cfg) (pa : Option Addr) (pn pc : Nat) (sa : Option Addr) (sn sc : Nat) (h : List Int) (l i : Value) (wr : World) : Prop :=
  ∃ n : Nat, n ≤ h.length ∧ i = .int .i64 n ∧ OwnW wr w.heap.size l (h.take n) ∧ Below w.heap.size w wr ∧ Blk wr w.heap.size 26 (cc c pa pn pc sa sn sc)
set_option maxRecDepth 100000 in
set_option maxHeartbeats 8000000 in
theorem slots_any {w : World} {p m k g cap : Nat} {s : St} {t d : Int} {hd : List Value} {rv ev : Value} {c : Cfg} {h : List Int} {A : Nat} (hp : PE w p m k g cap s t d hd rv ev) (H : InjH c h A s) (hin : CfgIn c) (pa : Option Addr) (pn pc : Nat) (sa : Option Addr) (sn sc : Nat) :
    Calls Try.prog 16 #[cv c pa pn pc sa sn sc, .pointer (some ⟨p, 0, none⟩)] w (SlotsG w h) := by
  have hhe := hin.he
  have hle := H.le
  have HSZ := Lib.hid H.sz
  have HSL := Lib.hid H.sl
  have HIN := Lib.hid hin
  have HP := Lib.hid hp
  have HLE := Lib.hid (And.intro hle hhe)
  have HST := Lib.hid (show SloR w c pa pn pc sa sn sc h (.slice none 0 0) (.int .i64 0) (w.alloc (.cells (cc c pa pn pc sa sn sc) 26)) from ⟨0, Nat.zero_le _, rfl, OwnW.nil _ _, below_one w _, Blk.made w _ _⟩)
  clear hp H hin hle hhe
  go_enter Try.func16, Try.ntmps16
  go_wp2_with fail
  generalize (w.alloc (.cells (cc c pa pn pc sa sn sc) 26)) = W0 at *
  go_loopw [5, 6] (fun l i wr => SloR w c pa pn pc sa sn sc h l i wr) (fun _ i _ => h.length - (intOf i).toNat)
  case atStart => exact HST.out
  case round =>
    clear HST
    obtain ⟨n, hn, rfl, hown, hb, hz⟩ := hrel
    have P0 := Lib.hid (HP.out.below hb)
    have O0 := Lib.hid hown
    have B0 := Lib.hid hb
    have Z0 := Lib.hid hz
    have hlt : (n : Int) < 100 := by have := HLE.out; omega
    have d20 : wr.cell? ⟨p, 20, none⟩ = some (.pointer (some ⟨m, 0, none⟩)) := P0.out.at20
    have z5 : wr.cell? ⟨w.heap.size, 5, none⟩ = some (.int .i64 c.he) := hz.at_ 5
    clear hown hb hz
    have hpk := peek_any P0.out.mem 2
    rw [HSZ.out] at hpk
    have HPK := Lib.hid hpk
    have hl64 : (h.length : Int) ≤ 64 := by have := HLE.out; omega
    clear hpk
    go_wp2_with fail
    (with_reducible refine HPK.out.mono ?_)
    rintro e w1 ⟨rfl, rfl⟩
    by_cases hnl : n < h.length
    case neg =>
      obtain rfl : n = h.length := by omega
      have hd0 : decide ((h.length : Int) < (h.length : Int)) = false := by simp
      go_wp2
      go_ret
      rw [List.take_length] at O0
      exact ⟨_, rfl, O0.out, B0.out⟩
    case pos =>
    have hnl2 : (n : Int) < (h.length : Int) := by omega
    have hnh : (n : Int) < c.he := by have := HLE.out; omega
    go_wp2_with fail
    clear d20 z5 HPK
    have Z1 := Lib.hid (show Blk wr.drew w.heap.size 26 (cc c pa pn pc sa sn sc) from Z0.out)
    have P1 := Lib.hid (P0.out.drewN 1)
    have d1 : wr.drew.cell? ⟨p, 20, none⟩ = some (.pointer (some ⟨m, 0, none⟩)) := P1.out.at20
    have O1 := Lib.hid (show OwnW wr.drew w.heap.size u5 (h.take n) from O0.out)
    have B1 := Lib.hid (below_drew B0.out)
    have HSN := Lib.hid (HSL.out n hnl)
    have HN := Lib.hid (And.intro hnl hn)
    have hS1 := Lib.hid (And.intro d1 Z1.out)
    clear Z0 P0 O0 B0 d1
    refine wp_region_held_drew (S := (fun u => u.cell? ⟨p, 20, none⟩ = some (.pointer (some ⟨m, 0, none⟩)) ∧ Blk u w.heap.size 26 (cc c pa pn pc sa sn sc))) (by kernel_rfl) hS1.out (fun _ => ?_)
    change wpAnyH _ _ _ _ _ 12 #[false, false, false, false, false, false, false, false, false, false, false, false] _ (World.drew _)
    refine wpAnyH_take (i := 0) (v := u5) rfl (by kernel_rfl) (by kernel_rfl) (by kernel_rfl) (fun _ _ _ h => h) (Or.inl ⟨by rfl, fun u hu => by (go_simp)⟩) hS1.out ?_
    simp only [List.getElem_toArray, List.getElem_cons_succ, List.getElem_cons_zero, Act.put, List.setIfInBounds_toArray, List.set_cons_zero, List.set_cons_succ]
    refine wpAnyH_take (i := 1) (v := .pointer (some ⟨p, 0, none⟩)) rfl (by kernel_rfl) (by kernel_rfl) (by kernel_rfl) (fun _ _ _ h => h) (Or.inl ⟨by rfl, fun u hu => by (go_simp)⟩) hS1.out ?_
    simp only [List.getElem_toArray, List.getElem_cons_succ, List.getElem_cons_zero, Act.put, List.setIfInBounds_toArray, List.set_cons_zero, List.set_cons_succ]
    refine wpAnyH_take (i := 2) (v := .pointer (some ⟨p, 0, none⟩)) rfl (by kernel_rfl) (by kernel_rfl) (by kernel_rfl) (fun _ _ _ h => h) (Or.inl ⟨by rfl, fun u hu => by (go_simp)⟩) hS1.out ?_
    simp only [List.getElem_toArray, List.getElem_cons_succ, List.getElem_cons_zero, Act.put, List.setIfInBounds_toArray, List.set_cons_zero, List.set_cons_succ]
    refine wpAnyH_take (i := 3) (v := .pointer (some ⟨p, 20, none⟩)) rfl (by kernel_rfl) (by kernel_rfl) (by kernel_rfl) (fun _ _ _ h => h) (Or.inl ⟨by rfl, fun u hu => by (go_simp)⟩) hS1.out ?_
    simp only [List.getElem_toArray, List.getElem_cons_succ, List.getElem_cons_zero, Act.put, List.setIfInBounds_toArray, List.set_cons_zero, List.set_cons_succ]
    refine wpAnyH_take (i := 4) (v := .pointer (some ⟨m, 0, none⟩)) rfl (by kernel_rfl) (by kernel_rfl) (by kernel_rfl) (fun _ _ _ h => h) (Or.inl ⟨by rfl, fun u hu => by (have e := hu.1; go_simp)⟩) hS1.out ?_
    simp only [List.getElem_toArray, List.getElem_cons_succ, List.getElem_cons_zero, Act.put, List.setIfInBounds_toArray, List.set_cons_zero, List.set_cons_succ]
    refine wpAnyH_take (i := 5) (v := cv c pa pn pc sa sn sc) rfl (by kernel_rfl) (by kernel_rfl) (by kernel_rfl) (fun _ _ _ h => h) (Or.inl ⟨by rfl, fun u hu => by (obtain ⟨x0, x1, x2, x3, x4, x5, x6, x7, x8, x9, x10⟩ := eleven hu.2; go_simp)⟩) hS1.out ?_
    simp only [List.getElem_toArray, List.getElem_cons_succ, List.getElem_cons_zero, Act.put, List.setIfInBounds_toArray, List.set_cons_zero, List.set_cons_succ]
    refine wpAnyH_take (i := 6) (v := .int .i64 n) rfl (by kernel_rfl) (by kernel_rfl) (by kernel_rfl) (fun _ _ _ h => h) (Or.inl ⟨by rfl, fun u hu => by (go_simp)⟩) hS1.out ?_
    simp only [List.getElem_toArray, List.getElem_cons_succ, List.getElem_cons_zero, Act.put, List.setIfInBounds_toArray, List.set_cons_zero, List.set_cons_succ]
    refine wpAnyH_ready (rs := [7]) (by kernel_rfl) (by simp) ?_
    refine AllReadyH.cons rfl (fun K hK => ?_) AllReadyH.nil
    go_simp
    go_at_call 29
    (with_reducible refine (slot_any HIN.out _).mono ?_)
    rintro e w2 ⟨rfl, hb⟩
    have Z2 := Lib.hid (Z1.out.below hb)
    have P2 := Lib.hid (P1.out.below hb)
    have O2 := Lib.hid (O1.out.below hb)
    have B2 := Lib.hid (B1.out.trans (hb.mono B1.out.size))
    have hS2 := Lib.hid (And.intro P2.out.at20 Z2.out)
    clear hb
    refine hK.out _ _ hS2.out (fun _ => ?_)
    clear hK K
    simp only [List.setIfInBounds_toArray, List.set_cons_zero, List.set_cons_succ]
    have hpk := peek_any P2.out.mem (rSlot c n)
    rw [HSN.out] at hpk
    have HPK := Lib.hid hpk
    clear hpk
    refine wpAnyH_ready (rs := [8]) (by kernel_rfl) (by simp) ?_
    refine AllReadyH.cons rfl (fun K hK => ?_) AllReadyH.nil
    go_simp
    go_at_call 28
    (with_reducible refine HPK.out.mono ?_)
    rintro e wx ⟨rfl, rfl⟩
    refine hK.out _ _ hS2.out (fun _ => ?_)
    clear hK K
    simp only [List.setIfInBounds_toArray, List.set_cons_zero, List.set_cons_succ]
    refine wpAnyH_ready (rs := [9]) (by kernel_rfl) (by simp) ?_
    refine AllReadyH.cons rfl (fun K hK => ?_) AllReadyH.nil
    go_simp
    have hb := below_one w2 (.cells #[.int .u64 (elt h n)] 48)
    have V3 := Lib.hid (words_new w2 [elt h n])
    have Z3 := Lib.hid (Z2.out.below hb)
    have P3 := Lib.hid (P2.out.below hb)
    have O3 := Lib.hid (O2.out.below hb)
    have B3 := Lib.hid (B2.out.trans (hb.mono B2.out.size))
    have hS3 := Lib.hid (And.intro P3.out.at20 Z3.out)
    clear hb
    refine hK.out _ _ hS3.out (fun _ => ?_)
    clear hK K
    simp only [List.setIfInBounds_toArray, List.set_cons_zero, List.set_cons_succ]
    refine wpAnyH_ready (rs := [10]) (by kernel_rfl) (by simp) ?_
    refine AllReadyH.cons rfl (fun K hK => ?_) AllReadyH.nil
    rw [if_pos (show Region.wanted _ _ = true by rfl)]
    refine wp_appU (.tmp 23) (.tmp 32) rfl rfl O3.out rfl (ns := [elt h n]) rfl V3.out (by have := HN.out; have := hl64; simp; omega) B3.out.size ?_
    intro v4 w4 hown4 hg4
    rw [take_elt HN.out.1] at hown4
    have B4 := Lib.hid (below_appU B3.out O3.out (Nat.le_refl _) hg4)
    have Z4 := Lib.hid (Z3.out.appU O3.out hg4 (.inl (by decide)))
    have O4 := Lib.hid hown4
    have P4 := Lib.hid (HP.out.below B4.out)
    have hS4 := Lib.hid (And.intro P4.out.at20 Z4.out)
    clear hown4 hg4
    refine hK.out _ _ hS4.out (fun _ => ?_)
    clear hK K
    simp only [List.getElem_toArray, List.getElem_cons_succ, List.getElem_cons_zero, Act.put, List.setIfInBounds_toArray, List.set_cons_zero, List.set_cons_succ]
    refine wpAnyH_take (i := 11) (v := v4) rfl (by kernel_rfl) (by kernel_rfl) (by kernel_rfl) (fun _ _ _ h => h) (Or.inl ⟨by rfl, fun u hu => by (go_simp)⟩) hS4.out ?_
    simp only [List.getElem_toArray, List.getElem_cons_succ, List.getElem_cons_zero, Act.put, List.setIfInBounds_toArray, List.set_cons_zero, List.set_cons_succ]
    refine wpAnyH_done (by kernel_rfl) ?_ _
    go_wp2_with fail
    go_roundw
    case rel => exact ⟨n + 1, HN.out.1, by go_num, O4.out, B4.out, Z4.out⟩
    case measure => simp [intOf]; have := HN.out; omega
end Go.Proofs.Ytanbjdlaolgepaa
