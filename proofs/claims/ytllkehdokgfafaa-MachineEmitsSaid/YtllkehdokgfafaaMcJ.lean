/-
  The walk of the statement MachineEmits: it returns true.
-/
import Derived.Test.YtllkehdokgfafaaMcI
import Derived.Test.YtllkehdokgfafaaMcC
import Derived.Test.YtllkehdokgfafaaEvSame
namespace Go.Proofs.Ytllkehdokgfafaa
open Go Go.RowKit Go.Shelf
set_option linter.unusedSimpArgs false

/-- The zero configuration. -/
abbrev zCfg : Cfg := ⟨0, 0, 0, 0, 0, 0, 0, 0, 0, [], []⟩

/-- What the loop keeps: j events are emitted. -/
def EmR (w : World) (p m k g : Nat) (es : List Ev) (i : Value) (wr : World) : Prop :=
  ∃ (j : Nat) (ev : Value), j ≤ es.length ∧ i = .int .i64 j ∧ PE wr p m k g 0 (St.new 0) 0 0 hd0 (.slice none 0 0) ev ∧ OwnE wr w.heap.size ev (es.take j) ∧ Below w.heap.size w wr

set_option maxRecDepth 100000 in
set_option maxHeartbeats 4000000 in
theorem emits_law {w : World} {a : Option Addr} {es : List Ev} (h : InE w a es) (c : Nat) :
    Calls Try.prog 6 #[.slice a es.length c] w fun e w' => e = .returned (.bool true) ∧ Below w.heap.size w w' := by
  have hmax := h.1
  unfold maxLen at hmax
  obtain ⟨n, hn⟩ : ∃ n, es.length = n := ⟨_, rfl⟩
  rw [hn] at hmax ⊢
  have HN := Lib.hid hn
  clear hn
  by_cases hn : 400 < n
  · go_enter Try.func6, Try.ntmps6
    go_wp2
    go_ret
    exact ⟨rfl, Below.refl _ _⟩
  have H := Lib.hid h
  clear h
  go_enter Try.func6, Try.ntmps6
  go_wp2_with fail
  (with_reducible refine (bare_any 0 w).mono ?_)
  rintro e w1 ⟨p, m, k, g, rfl, hp, hb, l1, l2, l3, l4⟩
  have e1 : sizeS 0 = 0 := rfl
  rw [e1] at hp
  have HP := Lib.hid hp
  have HB := Lib.hid hb
  have HL := Lib.hid (And.intro l1 (And.intro l2 (And.intro l3 l4)))
  clear e1 hp hb l1 l2 l3 l4
  go_wp2_with fail
  (with_reducible refine (awake_any w1).mono ?_)
  rintro e w2 ⟨rfl, hb2⟩
  have HP2 := Lib.hid (HP.out.below hb2)
  have HB2 := Lib.hid (HB.out.trans (hb2.mono HB.out.size))
  clear hb2 HP HB
  go_wp2_with fail
  go_loopw [4] (fun i wr => EmR w p m k g es i wr) (fun i _ => n - (intOf i).toNat)
  case atStart => exact ⟨0, _, by omega, rfl, HP2.out, OwnE.nil _ _, HB2.out⟩
  case round =>
    obtain ⟨j, ev, hj, rfl, hpe, hown, hbb⟩ := hrel
    by_cases hlt : j < n
    · obtain ⟨v, hv⟩ : ∃ v, es[j]? = some v := ⟨_, List.getElem?_eq_getElem (by rw [HN.out]; exact hlt)⟩
      obtain ⟨x, rfl, x0, x1, x2, x3, x4⟩ := (H.out.below (hbb)).at_ hv
      have hE := Lib.hid (pemit_any hpe hown (by rw [List.length_take]; have := HN.out; omega) hbb.size v.kd v.wk v.tk v.ot v.lv)
      have hev : es.take j ++ [⟨v.kd, v.wk, v.tk, v.ot, v.lv⟩] = es.take (j + 1) := by
        rw [List.take_add_one, hv]
        rfl
      rw [hev] at hE
      have hbs : ∀ y ∈ p :: ev.ownBlock.toList, w.heap.size ≤ y := by
        intro y hy
        simp only [List.mem_cons, Option.mem_toList] at hy
        rcases hy with rfl | hy
        · exact HL.out.1
        · exact (hown.lt y hy).1
      have HBS := Lib.hid hbs
      have HBB := Lib.hid hbb
      clear hpe hown hbb hv hev hbs
      go_wp2_with fail
      (with_reducible refine hE.out.mono ?_)
      rintro e w5 ⟨ev', rfl, hp5, ho5, hf5⟩
      have hb5 := below_of_fr HBB.out hf5 HBS.out
      have HR := Lib.hid (And.intro hp5 (And.intro ho5 hb5))
      clear hp5 ho5 hf5 hb5 hE
      go_wp2_with fail
      go_roundw
      case rel => exact ⟨j + 1, ev', by rw [HN.out]; omega, by go_num, HR.out.1, HR.out.2.1, HR.out.2.2⟩
      case measure => simp [intOf]; omega
    · obtain rfl : j = n := by rw [HN.out] at hj; omega
      rw [List.take_of_length_le (by rw [HN.out]; exact Nat.le_refl _)] at hown
      obtain ⟨ea, ec, hvf, hin⟩ := hown.inE
      subst hvf
      have h23 := hpe.at23
      have HC := Lib.hid (pcopy_any (B := 0) (c := zCfg) (pa := none) (pn := 0) (pc := 0) (sa := none) (sn := 0) (sc := 0) (l0 := 0) (l1 := 0) (l2 := 0) (l3 := 0) (l4 := 0) (l5 := 0) (l6 := 0) (l7 := 0) (l8 := 0) hpe hin (by rw [HN.out]; omega) ⟨⟨rfl, by omega, fun i hi => by omega⟩, ⟨rfl, by omega, fun i hi => by omega⟩⟩ (by omega) (by omega) (by simp))
      have HPE := Lib.hid hpe
      have HIN := Lib.hid hin
      have HBB := Lib.hid hbb
      rw [HN.out] at h23
      clear hpe hown hbb hin HP2 HB2
      go_wp2_with fail
      (with_reducible refine HC.out.mono ?_)
      rintro e w5 ⟨p', m', k', g', cap', hd', ev', rfl, hp5, ho5, hb5⟩
      obtain ⟨ea', ec', hvf', hin'⟩ := ho5.inE
      subst hvf'
      have h23 := (HPE.out.below hb5).at23
      have k23 := hp5.at23
      rw [HN.out] at h23 k23
      have hi1 := HIN.out.below hb5
      have hi2 := H.out.below (HBB.out.trans (hb5.mono HBB.out.size))
      have HS1 := Lib.hid (evsame_any hi1 hi2 ec c)
      have HS2 := Lib.hid (fun d : Nat => evsame_any (w := w5.drewN d) (show InE (w5.drewN d) ea' es from hin') (show InE (w5.drewN d) a es from hi2) ec' c)
      rw [HN.out] at HS1 HS2
      have HBF := Lib.hid (HBB.out.trans (hb5.mono HBB.out.size))
      clear hi1 hi2 hin' ho5 hp5 hb5 HC HPE HIN
      go_wp2_with fail
      (with_reducible refine HS1.out.mono ?_)
      rintro e w6 ⟨rfl, d6, rfl⟩
      rw [decide_eq_true rfl]
      go_wp2_with fail
      (with_reducible refine (HS2.out _).mono ?_)
      rintro e w6 ⟨rfl, d7, rfl⟩
      rw [decide_eq_true rfl]
      go_wp2
      go_ret
      exact ⟨rfl, HBF.out.trans ((below_drewN _ _).mono HBF.out.size)⟩

theorem emits_row {w : World} {a : Option Addr} {n : Nat} {es : List Ev} (h : es.length = n ∧ InE w a es) (c : Nat) :
    Calls Try.prog 6 #[.slice a n c] w fun e w' => e = .returned (.bool true) ∧ Below w.heap.size w w' := by
  obtain ⟨rfl, h⟩ := h
  exact emits_law h c
end Go.Proofs.Ytllkehdokgfafaa
