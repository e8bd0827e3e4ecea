/-
  The reference's search.
  Stage 11: well-formed operations of the reference. (Written by wip/gen_lin.py.)
  The reference's Linear.
-/
import Derived.Test.YtjehiekmlbeaeaaGreatRapB
import Derived.Test.YtjehiekmlbeaeaaGreatMgAN
import Derived.LoopTactic
import Derived.OwnWalk
import Derived.Test.YtjehiekmlbeaeaaGreatMgBF
namespace Go.Proofs.YtjehiekmlbeaeaaGreat
open Go Go.RowKit
set_option linter.unusedSimpArgs false
set_option linter.unusedVariables false

theorem InOp.frs {w w' : World} {ub : Nat} {a : Option Addr} {ops : List OpR} (h : InOp w a ops) (hf : Fr [ub] w w') (hne : ∀ x, a = some x → x.block ≠ ub) : InOp w' a ops :=
  ⟨h.1, h.2.1, fun i hi => by
    obtain ⟨x, e, hx, hc⟩ := h.2.2 i hi
    refine ⟨x, e, Nat.lt_of_lt_of_le hx hf.size, fun j hj => ?_⟩
    rw [← hc j hj]
    exact World.cell?_of_block (by rw [show (x.add (i * 6 + j)).block = x.block by unfold Addr.add; split <;> rfl]; exact hf.block x.block hx (by simpa using hne x e))⟩
/-- The cells of which operations are performed. -/
abbrev dcells (d : List Bool) : Array Value := (d.map Value.bool).toArray
theorem dcell {w : World} {ub : Nat} {d : List Bool} (h : Blk w ub 4 (dcells d)) {i : Nat} (hi : i < d.length) : w.cell? ⟨ub, i, none⟩ = some (.bool (d.getD i false)) := by
  rw [h.at_, List.getElem?_toArray, List.getElem?_map, List.getD_eq_getElem?_getD, List.getElem?_eq_getElem hi]
  rfl
theorem dput {w : World} {ub : Nat} {d : List Bool} (h : Blk w ub 4 (dcells d)) (i : Nat) (b : Bool) : Blk (w.setCell ⟨ub, i, none⟩ (.bool b)) ub 4 (dcells (d.set i b)) := by
  have := h.put i (.bool b)
  rw [List.setIfInBounds_toArray, ← List.map_set] at this
  exact this
theorem dback {d : List Bool} {i : Nat} (h : d.getD i false = false) : (d.set i true).set i false = d := by
  rw [List.set_set]
  apply List.ext_getElem?
  intro j
  by_cases e : i = j
  · subst e
    by_cases hi : i < d.length
    · rw [List.getElem?_set_self hi]
      rw [List.getD_eq_getElem?_getD] at h
      cases hd : d[i]? with
      | none => rw [List.getElem?_eq_getElem hi] at hd; cases hd
      | some b => rw [hd] at h; exact congrArg some h.symm
    · rw [List.getElem?_eq_none (by rw [List.length_set]; omega), List.getElem?_eq_none (by omega)]
  · rw [List.getElem?_set_ne e]
/-- What search gives. -/
def SeaD (cap : Int) (ops : List OpR) (d : List Bool) (l : List Int) (ub : Nat) (w : World) (e : Ending) (w' : World) : Prop :=
  ∃ b : Bool, e = .returned (.bool b) ∧ (b = true ↔ LinFrom cap (und ops d) l) ∧ (b = false → Blk w' ub 4 (dcells d)) ∧ Fr [ub] w w'
/-- What its loop keeps. -/
structure SeaR (cap : Int) (ops : List OpR) (d : List Bool) (l : List Int) (ub : Nat) (w : World) (i : Nat) (al : Bool) (wr : World) : Prop where
  al : al = true ↔ ∀ j, j < i → d.getD j false = true
  no : ∀ j, j < i → ¬ Cand cap ops d l j
  b : Blk wr ub 4 (dcells d)
  f : Fr [ub] w wr
theorem SeaR.last {cap : Int} {ops : List OpR} {d : List Bool} {l : List Int} {ub : Nat} {w wr : World} {i : Nat} {al : Bool} (h : SeaR cap ops d l ub w i al wr) (hi : i = ops.length) (hd : ops.length = d.length) (hw : ∀ o, o ∈ ops → o.a ≤ o.b) : (al = true ↔ LinFrom cap (und ops d) l) := by
  subst hi
  constructor
  · intro e
    have h0 := h.al.1 e
    have : undI ops d = [] := List.eq_nil_iff_forall_not_mem.2 (fun j hj => by
      obtain ⟨h1, h2⟩ := undI_mem.1 hj
      rw [h0 j h1] at h2
      cases h2)
    have hu : und ops d = [] := by unfold und; rw [this]; rfl
    rw [hu]
    exact LinFrom.nil cap l
  · intro hl
    by_cases hu : und ops d = []
    · refine h.al.2 (fun j hj => ?_)
      cases hb : d.getD j false with
      | true => rfl
      | false =>
        have : ops.getD j .zero ∈ und ops d := und_mem.2 ⟨j, undI_mem.2 ⟨hj, hb⟩, rfl⟩
        rw [hu] at this
        cases this
    · obtain ⟨j, hc⟩ := cand_of_lin (by omega) hw hu hl
      exact absurd hc (h.no j (undI_mem.1 hc.1).1)
theorem SeaR.used {cap : Int} {ops : List OpR} {d : List Bool} {l : List Int} {ub : Nat} {w wr wr' : World} {i : Nat} {al : Bool} (h : SeaR cap ops d l ub w i al wr) (hd : d.getD i false = true) (hb : Blk wr' ub 4 (dcells d)) (hf : Fr [ub] w wr') : SeaR cap ops d l ub w (i + 1) al wr' := by
  refine ⟨⟨fun e j hj => ?_, fun e => h.al.2 (fun j hj => e j (by omega))⟩, fun j hj => ?_, hb, hf⟩
  · by_cases ej : j = i
    · rw [ej]; exact hd
    · exact h.al.1 e j (by omega)
  · by_cases ej : j = i
    · subst ej
      exact fun hc => by
        have := (undI_mem.1 hc.1).2
        rw [hd] at this
        cases this
    · exact h.no j (by omega)
theorem SeaR.not {cap : Int} {ops : List OpR} {d : List Bool} {l : List Int} {ub : Nat} {w wr wr' : World} {i : Nat} {al : Bool} (h : SeaR cap ops d l ub w i al wr) (hd : d.getD i false = false) (hn : ¬ Cand cap ops d l i) (hb : Blk wr' ub 4 (dcells d)) (hf : Fr [ub] w wr') : SeaR cap ops d l ub w (i + 1) false wr' := by
  refine ⟨⟨fun e => (by cases e), fun e => (by rw [e i (by omega)] at hd; cases hd)⟩, fun j hj => ?_, hb, hf⟩
  by_cases ej : j = i
  · rw [ej]; exact hn
  · exact h.no j (by omega)

set_option maxRecDepth 100000 in
set_option maxHeartbeats 16000000 in
theorem rsearch_any {ops : List OpR} {N oc ub : Nat} {oa : Option Addr} (cap : Int) (hN : ops.length = N) (h12 : N ≤ 12) (hw : ∀ o, o ∈ ops → o.a ≤ o.b) (hne : ∀ x, oa = some x → 0 < N → x.block ≠ ub) (k : Nat) :
    ∀ {w : World} {d : List Bool} {l : List Int} {v : Value}, (undI ops d).length = k → InOp w oa ops → d.length = N → Blk w ub 4 (dcells d) → InV w ub v l → l.length + k ≤ 900 →
    Calls Tryz.prog 73 #[.slice oa N oc, .slice (some ⟨ub, 0, none⟩) N N, v, .int .i64 cap] w (SeaD cap ops d l ub w) := by
  induction k using Nat.strongRecOn with
  | _ k ih =>
  intro w d l v hk ho hd hb hv hl
  obtain ⟨va, vc, hve, _⟩ := hv
  have hv : InV w ub v l := ⟨va, vc, hve, by assumption⟩
  subst hve
  have HK := Lib.hid (And.intro hk (And.intro hd hl))
  have HO := Lib.hid ho
  have HV := Lib.hid hv
  have HC := Lib.hid (And.intro hN (And.intro hw hne))
  have IH := Lib.hid ih
  have HR0 := Lib.hid (show SeaR cap ops d l ub w 0 true w from ⟨⟨fun _ j hj => absurd hj (by omega), fun _ => rfl⟩, fun j hj => absurd hj (by omega), hb, Fr.refl _ _⟩)
  clear ih hk ho hd hb hv hl hN hw hne
  rename_i hrest
  clear hrest
  generalize hlv : Value.slice va l.length vc = v at *
  obtain ⟨L, hL⟩ : ∃ L, l.length = L := ⟨_, rfl⟩
  rw [hL] at hlv
  subst hlv
  have HLL := Lib.hid hL
  clear hL
  go_enter Tryz.func73, Tryz.ntmps73
  go_wp2_with fail
  go_loopw [10, 9] (fun iv av wr => ∃ (i : Nat) (al : Bool), i ≤ N ∧ iv = .int .i64 i ∧ av = .bool al ∧ SeaR cap ops d l ub w i al wr) (fun iv _ _ => N - (intOf iv).toNat)
  case atStart => exact ⟨0, true, by omega, rfl, rfl, HR0.out⟩
  case round =>
    clear HR0
    obtain ⟨i, al, hi, rfl, rfl, hr⟩ := hrel
    have R := Lib.hid hr
    clear hr
    by_cases hlt : i < N
    case neg =>
      obtain rfl : i = N := by omega
      go_wp2_with fail
      go_ret
      exact ⟨al, rfl, R.out.last HC.out.1.symm (by rw [HC.out.1, HK.out.2.1]) HC.out.2.1, fun _ => R.out.b, R.out.f⟩
    have hlt2 : (i : Int) < (N : Int) := by omega
    have hi0 : (0 : Int) ≤ (i : Int) := by omega
    have ci := dcell R.out.b (i := i) (by rw [HK.out.2.1]; exact hlt)
    obtain ⟨di, hdi⟩ : ∃ b, d.getD i false = b := ⟨_, rfl⟩
    rw [hdi] at ci
    have HDI := Lib.hid hdi
    clear hdi
    cases di with
    | true =>
      go_wp2_with fail
      go_roundw
      case rel => exact ⟨i + 1, al, by omega, by go_num, rfl, R.out.used HDI.out R.out.b R.out.f⟩
      case measure => simp [intOf]; omega
    | false =>
    go_wp2_with fail
    clear ci
    go_loopw [12, 11] (fun kv fv wr2 => ∃ (k2 : Nat) (fb : Bool), k2 ≤ N ∧ kv = .int .i64 k2 ∧ fv = .bool fb ∧ Hid (fb = true ↔ ∀ j, j < k2 → d.getD j false = true ∨ (ops.getD i .zero).a ≤ (ops.getD j .zero).b) ∧ Hid (Blk wr2 ub 4 (dcells d) ∧ Fr [ub] w wr2)) (fun kv _ _ => N - (intOf kv).toNat)
    case atStart => exact ⟨0, true, by omega, rfl, rfl, Lib.hid ⟨fun _ j hj => absurd hj (by omega), fun _ => rfl⟩, Lib.hid ⟨R.out.b, R.out.f⟩⟩
    case round =>
      obtain ⟨k2, fb, hk2, rfl, rfl, HF, HB⟩ := hrel
      by_cases hlk : k2 < N
      case pos =>
        have hlk2 : (k2 : Int) < (N : Int) := by omega
        have hk0 : (0 : Int) ≤ (k2 : Int) := by omega
        have cu := dcell HB.out.1 (i := k2) (by rw [HK.out.2.1]; exact hlk)
        obtain ⟨x, rfl, hxb, _, _, p2, _, _, _⟩ := InOp.op (HO.out.frs HB.out.2 (fun x hx => HC.out.2.2 x hx (by omega))) (i := i) (by rw [HC.out.1]; exact hlt)
        obtain ⟨y, hy, hyb, _, _, _, p3, _, _⟩ := InOp.op (HO.out.frs HB.out.2 (fun x hx => HC.out.2.2 x hx (by omega))) (i := k2) (by rw [HC.out.1]; exact hlk)
        obtain rfl := Option.some.inj hy
        obtain ⟨fa, hfa⟩ : ∃ z, (ops.getD i .zero).a = z := ⟨_, rfl⟩
        obtain ⟨tb, htb⟩ : ∃ z, (ops.getD k2 .zero).b = z := ⟨_, rfl⟩
        obtain ⟨dk, hdk⟩ : ∃ z, d.getD k2 false = z := ⟨_, rfl⟩
        rw [hfa] at p2
        rw [htb] at p3
        rw [hdk] at cu
        have HE := Lib.hid (And.intro hfa (And.intro htb hdk))
        clear hy hyb hxb hfa htb hdk
        have HN := Lib.hid (show ∀ b2 : Bool, (b2 = true ↔ fb = true ∧ (dk = true ∨ fa ≤ tb)) → (b2 = true ↔ ∀ j, j < k2 + 1 → d.getD j false = true ∨ (ops.getD i .zero).a ≤ (ops.getD j .zero).b) from fun b2 hb2 => by
          rw [hb2]
          constructor
          · rintro ⟨h1, h2⟩ j hj
            by_cases ej : j = k2
            · subst ej
              rw [HE.out.1, HE.out.2.1, HE.out.2.2]
              exact h2
            · exact HF.out.1 h1 j (by omega)
          · intro h
            refine ⟨HF.out.2 (fun j hj => h j (by omega)), ?_⟩
            have := h k2 (by omega)
            rw [HE.out.1, HE.out.2.1, HE.out.2.2] at this
            exact this)
        cases fb with
        | false =>
          go_wp2_with fail
          go_quiet (fail)
          go_wp2_with fail
          go_roundw
          case rel => exact ⟨k2 + 1, false, by omega, by go_num, rfl, Lib.hid (HN.out _ (by simp)), Lib.hid ⟨HB.out.1.below (below_drewN _ _), HB.out.2.drewN _⟩⟩
          case measure => simp [intOf]; omega
        | true =>
        cases dk with
        | true =>
          go_wp2_with fail
          go_quiet (fail)
          go_wp2_with fail
          go_roundw
          case rel => exact ⟨k2 + 1, true, by omega, by go_num, rfl, Lib.hid (HN.out _ (by simp)), Lib.hid ⟨HB.out.1.below (below_drewN _ _), HB.out.2.drewN _⟩⟩
          case measure => simp [intOf]; omega
        | false =>
        by_cases hfa : fa ≤ tb
        · have hfd : decide (fa ≤ tb) = true := decide_eq_true hfa
          have HFA := Lib.hid hfa
          clear hfa
          go_wp2_with fail
          go_quiet (fail)
          go_wp2_with fail
          go_roundw
          case rel => exact ⟨k2 + 1, true, by omega, by go_num, rfl, Lib.hid (HN.out _ (by simp [HFA.out])), Lib.hid ⟨HB.out.1.below (below_drewN _ _), HB.out.2.drewN _⟩⟩
          case measure => simp [intOf]; omega
        · have hfd : decide (fa ≤ tb) = false := decide_eq_false hfa
          have HFA := Lib.hid hfa
          clear hfa
          go_wp2_with fail
          go_quiet (fail)
          go_wp2_with fail
          go_roundw
          case rel => exact ⟨k2 + 1, false, by omega, by go_num, rfl, Lib.hid (HN.out _ (by have := HFA.out; simp; omega)), Lib.hid ⟨HB.out.1.below (below_drewN _ _), HB.out.2.drewN _⟩⟩
          case measure => simp [intOf]; omega
      obtain rfl : k2 = N := by omega
      cases fb with
      | false =>
        go_wp2_with fail
        go_roundw
        case rel => exact ⟨i + 1, false, by omega, by go_num, rfl, R.out.not HDI.out (fun hc => by
          have h1 : (false : Bool) = true := HF.out.2 (fun j hj => by
            cases hb : d.getD j false with
            | true => exact .inl rfl
            | false => exact .inr (hc.2.1 j (undI_mem.2 ⟨by rw [HC.out.1]; exact hj, hb⟩)))
          cases h1) HB.out.1 HB.out.2⟩
        case measure => simp [intOf]; omega
      | true =>
      obtain ⟨x, rfl, hxb, p0, p1, p2, p3, p4, p5⟩ := InOp.op (HO.out.frs HB.out.2 (fun x hx => HC.out.2.2 x hx (by omega))) (i := i) (by rw [HC.out.1]; exact hlt)
      obtain ⟨o, hoo⟩ : ∃ o, ops.getD i .zero = o := ⟨_, rfl⟩
      rw [hoo] at p0 p1 p2 p3 p4 p5
      have HOO := Lib.hid hoo
      have HAP := Lib.hid (rapply_any (o := o) (cap := cap) (HV.out.fr HB.out.2) (by have := HK.out.2.2; omega) (HB.out.1.lt))
      clear hoo hxb
      go_wp2_with fail
      (with_reducible refine HAP.out.mono ?_)
      rintro e w3 ⟨v', b2, rfl, hb3, hyes, hno⟩
      have B3 := Lib.hid (And.intro (HB.out.1.below hb3) (HB.out.2.trans (Fr.old hb3)))
      have HY := Lib.hid (And.intro hyes hno)
      clear hyes hno hb3 p0 p1 p2 p3 p4 p5 HAP
      cases b2 with
      | false =>
        go_wp2_with fail
        go_roundw
        case rel => exact ⟨i + 1, false, by omega, by go_num, rfl, R.out.not HDI.out (fun hc => by
          obtain ⟨l', ha, _⟩ := hc.2.2
          rw [HOO.out, HY.out.2 (by trivial)] at ha
          cases ha) B3.out.1 B3.out.2⟩
        case measure => simp [intOf]; omega
      | true =>
      obtain ⟨l', ha, hv'⟩ := HY.out.1 (by trivial)
      have HA := Lib.hid ha
      have ci := dcell B3.out.1 (i := i) (by rw [HK.out.2.1]; exact hlt)
      rw [HDI.out] at ci
      have fi := B3.out.1.free i
      have hs4 : Fr [ub] w3 (w3.setCell ⟨ub, i, none⟩ (.bool true)) := (Fr.refl _ _).setCell (by simp) _
      have D4 := Lib.hid (dput B3.out.1 i true)
      have F4 := Lib.hid (B3.out.2.trans hs4)
      have V4 := Lib.hid (hv'.fr hs4)
      clear hs4 ha hv' HY
      obtain ⟨a', c', hve, hvr⟩ := V4.out
      subst hve
      have hmem : i ∈ undI ops d := undI_mem.2 ⟨by rw [HC.out.1]; exact hlt, HDI.out⟩
      obtain ⟨k', hk'⟩ : ∃ k', k = k' + 1 := by
        cases k with
        | zero =>
          have h1 := HK.out.1
          rw [List.eq_nil_of_length_eq_zero h1] at hmem
          cases hmem
        | succ k' => exact ⟨k', rfl⟩
      have hk2 := undI_less (ops := ops) (d := d) (j := i) (by rw [HK.out.2.1]; exact hlt) hmem (HK.out.1.trans hk')
      have hll := appO_len HA.out
      have HS := Lib.hid (IH.out k' (by omega) hk2 (HO.out.frs F4.out (fun x hx => HC.out.2.2 x hx (by omega))) (by rw [List.length_set]; exact HK.out.2.1) D4.out V4.out (by have := HK.out.2.2; omega))
      have HM := Lib.hid hmem
      clear hvr hmem hk' hk2 hll
      generalize hL2 : l'.length = L2 at HS
      go_wp2_with fail
      (with_reducible refine HS.out.mono ?_)
      rintro e w5 ⟨b3, rfl, hiff, hbk, hf5⟩
      have HI := Lib.hid (And.intro hiff hbk)
      have F5 := Lib.hid (F4.out.trans hf5)
      clear hiff hbk hf5 ci fi
      cases b3 with
      | true =>
        go_wp2_with fail
        go_ret
        refine ⟨true, rfl, ⟨fun _ => lin_of_cand (j := i) (by rw [HC.out.1, HK.out.2.1]; omega) ?_, fun _ => rfl⟩, fun e => (by cases e), F5.out⟩
        refine ⟨HM.out, fun j hj => ?_, l', by rw [HOO.out]; exact HA.out, HI.out.1.1 (by trivial)⟩
        obtain ⟨h1, h2⟩ := undI_mem.1 hj
        rcases HF.out.1 (by trivial) j (by rw [← HC.out.1]; exact h1) with e | e
        · rw [h2] at e; cases e
        · exact e
      | false =>
      have D5 := Lib.hid (HI.out.2 (by trivial))
      have ci := dcell D5.out (i := i) (by rw [List.length_set, HK.out.2.1]; exact hlt)
      have fi := D5.out.free i
      have hs6 : Fr [ub] w5 (w5.setCell ⟨ub, i, none⟩ (.bool false)) := (Fr.refl _ _).setCell (by simp) _
      have D6 := Lib.hid (show Blk (w5.setCell ⟨ub, i, none⟩ (.bool false)) ub 4 (dcells d) from dback HDI.out ▸ dput D5.out i false)
      have F6 := Lib.hid (F5.out.trans hs6)
      clear hs6
      generalize (d.set i true).getD i false = bz at ci
      go_wp2_with fail
      go_roundw
      case rel => exact ⟨i + 1, false, by omega, by go_num, rfl, R.out.not HDI.out (fun hc => by
        obtain ⟨l2, ha2, hl2⟩ := hc.2.2
        rw [HOO.out, HA.out] at ha2
        obtain rfl := Option.some.inj ha2
        have := HI.out.1.2 hl2
        cases this) D6.out F6.out⟩
      case measure => simp [intOf]; omega
end Go.Proofs.YtjehiekmlbeaeaaGreat

namespace Go.Proofs.YtjehiekmlbeaeaaGreat
open Go Go.RowKit
set_option linter.unusedSimpArgs false
set_option linter.unusedVariables false

set_option maxRecDepth 100000 in
set_option maxHeartbeats 4000000 in
theorem rwf_any (x : OpR) (w : World) : Calls Tryz.prog 72 #[.agg (opC x)] w fun e w' => e = .returned (.bool (decide (WfO x))) ∧ Below w.heap.size w w' := by
  obtain ⟨k, m, a, b, c, v⟩ := x
  have hB := Lib.hid (below_one w (.cells (opC ⟨k, m, a, b, c, v⟩) 80))
  have hE := Blk.made w 80 (opC ⟨k, m, a, b, c, v⟩)
  have c0 := hE.at_ 0
  have c1 := hE.at_ 1
  have c2 := hE.at_ 2
  have c3 := hE.at_ 3
  have c4 := hE.at_ 4
  have c5 := hE.at_ 5
  clear hE
  by_cases n1 : a < 0
  · skip
    have g0 : decide (a < (0 : Int)) = true := by simp; omega
    have hR : decide (WfO ⟨k, m, a, b, c, v⟩) = false := by
      refine decide_eq_false fun h => ?_
      obtain ⟨h1, h2, h3, h4⟩ := h
      simp only [Formed] at h1 h2 h3 h4
      omega
    rw [hR]
    clear hR
    go_enter Tryz.func72, Tryz.ntmps72
    go_wp2
    go_ret
    exact ⟨rfl, hB.out⟩
  by_cases n2 : b < a
  · skip
    have g0 : decide (a < (0 : Int)) = false := by simp; omega
    have g1 : decide (b < a) = true := by simp; omega
    have hR : decide (WfO ⟨k, m, a, b, c, v⟩) = false := by
      refine decide_eq_false fun h => ?_
      obtain ⟨h1, h2, h3, h4⟩ := h
      simp only [Formed] at h1 h2 h3 h4
      omega
    rw [hR]
    clear hR
    go_enter Tryz.func72, Tryz.ntmps72
    go_wp2
    go_ret
    exact ⟨rfl, hB.out⟩
  by_cases n3 : m < 0
  · skip
    have g0 : decide (a < (0 : Int)) = false := by simp; omega
    have g1 : decide (b < a) = false := by simp; omega
    have g2 : decide (m < (0 : Int)) = true := by simp; omega
    have hR : decide (WfO ⟨k, m, a, b, c, v⟩) = false := by
      refine decide_eq_false fun h => ?_
      obtain ⟨h1, h2, h3, h4⟩ := h
      simp only [Formed] at h1 h2 h3 h4
      omega
    rw [hR]
    clear hR
    go_enter Tryz.func72, Tryz.ntmps72
    go_wp2
    go_ret
    exact ⟨rfl, hB.out⟩
  by_cases k0 : k = 0
  · subst k0
    by_cases d0 : c = 0
    · subst d0
      have g0 : decide (a < (0 : Int)) = false := by simp; omega
      have g1 : decide (b < a) = false := by simp; omega
      have g2 : decide (m < (0 : Int)) = false := by simp; omega
      have hR : decide (WfO ⟨0, m, a, b, 0, v⟩) = true := by
        exact decide_eq_true ⟨by simp [Formed], by show 0 ≤ m; omega, by show 0 ≤ a; omega, by show a ≤ b; omega⟩
      rw [hR]
      clear hR
      go_enter Tryz.func72, Tryz.ntmps72
      go_wp2
      go_ret
      exact ⟨rfl, hB.out⟩
    by_cases d3 : c = 3
    · subst d3
      have g0 : decide (a < (0 : Int)) = false := by simp; omega
      have g1 : decide (b < a) = false := by simp; omega
      have g2 : decide (m < (0 : Int)) = false := by simp; omega
      have hR : decide (WfO ⟨0, m, a, b, 3, v⟩) = true := by
        exact decide_eq_true ⟨by simp [Formed], by show 0 ≤ m; omega, by show 0 ≤ a; omega, by show a ≤ b; omega⟩
      rw [hR]
      clear hR
      go_enter Tryz.func72, Tryz.ntmps72
      go_wp2
      go_ret
      exact ⟨rfl, hB.out⟩
    · skip
      have g0 : decide (a < (0 : Int)) = false := by simp; omega
      have g1 : decide (b < a) = false := by simp; omega
      have g2 : decide (m < (0 : Int)) = false := by simp; omega
      have g3 : (c == (0 : Int)) = false := by simp; omega
      have g4 : (c == (3 : Int)) = false := by simp; omega
      have hR : decide (WfO ⟨0, m, a, b, c, v⟩) = false := by
        refine decide_eq_false fun h => ?_
        obtain ⟨h1, h2, h3, h4⟩ := h
        simp only [Formed] at h1 h2 h3 h4
        omega
      rw [hR]
      clear hR
      go_enter Tryz.func72, Tryz.ntmps72
      go_wp2
      go_ret
      exact ⟨rfl, hB.out⟩
  by_cases k1 : k = 1
  · subst k1
    by_cases d1 : c = 1
    · subst d1
      have g0 : decide (a < (0 : Int)) = false := by simp; omega
      have g1 : decide (b < a) = false := by simp; omega
      have g2 : decide (m < (0 : Int)) = false := by simp; omega
      have hR : decide (WfO ⟨1, m, a, b, 1, v⟩) = true := by
        exact decide_eq_true ⟨by simp [Formed], by show 0 ≤ m; omega, by show 0 ≤ a; omega, by show a ≤ b; omega⟩
      rw [hR]
      clear hR
      go_enter Tryz.func72, Tryz.ntmps72
      go_wp2
      go_ret
      exact ⟨rfl, hB.out⟩
    by_cases d2 : c = 2
    · subst d2
      have g0 : decide (a < (0 : Int)) = false := by simp; omega
      have g1 : decide (b < a) = false := by simp; omega
      have g2 : decide (m < (0 : Int)) = false := by simp; omega
      have hR : decide (WfO ⟨1, m, a, b, 2, v⟩) = true := by
        exact decide_eq_true ⟨by simp [Formed], by show 0 ≤ m; omega, by show 0 ≤ a; omega, by show a ≤ b; omega⟩
      rw [hR]
      clear hR
      go_enter Tryz.func72, Tryz.ntmps72
      go_wp2
      go_ret
      exact ⟨rfl, hB.out⟩
    · skip
      have g0 : decide (a < (0 : Int)) = false := by simp; omega
      have g1 : decide (b < a) = false := by simp; omega
      have g2 : decide (m < (0 : Int)) = false := by simp; omega
      have g3 : (c == (1 : Int)) = false := by simp; omega
      have g4 : (c == (2 : Int)) = false := by simp; omega
      have hR : decide (WfO ⟨1, m, a, b, c, v⟩) = false := by
        refine decide_eq_false fun h => ?_
        obtain ⟨h1, h2, h3, h4⟩ := h
        simp only [Formed] at h1 h2 h3 h4
        omega
      rw [hR]
      clear hR
      go_enter Tryz.func72, Tryz.ntmps72
      go_wp2
      go_ret
      exact ⟨rfl, hB.out⟩
  by_cases k2 : k = 2
  · subst k2
    by_cases d1 : c = 1
    · subst d1
      have g0 : decide (a < (0 : Int)) = false := by simp; omega
      have g1 : decide (b < a) = false := by simp; omega
      have g2 : decide (m < (0 : Int)) = false := by simp; omega
      have hR : decide (WfO ⟨2, m, a, b, 1, v⟩) = true := by
        exact decide_eq_true ⟨by simp [Formed], by show 0 ≤ m; omega, by show 0 ≤ a; omega, by show a ≤ b; omega⟩
      rw [hR]
      clear hR
      go_enter Tryz.func72, Tryz.ntmps72
      go_wp2
      go_ret
      exact ⟨rfl, hB.out⟩
    by_cases d2 : c = 2
    · subst d2
      have g0 : decide (a < (0 : Int)) = false := by simp; omega
      have g1 : decide (b < a) = false := by simp; omega
      have g2 : decide (m < (0 : Int)) = false := by simp; omega
      have hR : decide (WfO ⟨2, m, a, b, 2, v⟩) = true := by
        exact decide_eq_true ⟨by simp [Formed], by show 0 ≤ m; omega, by show 0 ≤ a; omega, by show a ≤ b; omega⟩
      rw [hR]
      clear hR
      go_enter Tryz.func72, Tryz.ntmps72
      go_wp2
      go_ret
      exact ⟨rfl, hB.out⟩
    by_cases d4 : c = 4
    · subst d4
      have g0 : decide (a < (0 : Int)) = false := by simp; omega
      have g1 : decide (b < a) = false := by simp; omega
      have g2 : decide (m < (0 : Int)) = false := by simp; omega
      have hR : decide (WfO ⟨2, m, a, b, 4, v⟩) = true := by
        exact decide_eq_true ⟨by simp [Formed], by show 0 ≤ m; omega, by show 0 ≤ a; omega, by show a ≤ b; omega⟩
      rw [hR]
      clear hR
      go_enter Tryz.func72, Tryz.ntmps72
      go_wp2
      go_ret
      exact ⟨rfl, hB.out⟩
    · skip
      have g0 : decide (a < (0 : Int)) = false := by simp; omega
      have g1 : decide (b < a) = false := by simp; omega
      have g2 : decide (m < (0 : Int)) = false := by simp; omega
      have g3 : (c == (1 : Int)) = false := by simp; omega
      have g4 : (c == (2 : Int)) = false := by simp; omega
      have g5 : (c == (4 : Int)) = false := by simp; omega
      have hR : decide (WfO ⟨2, m, a, b, c, v⟩) = false := by
        refine decide_eq_false fun h => ?_
        obtain ⟨h1, h2, h3, h4⟩ := h
        simp only [Formed] at h1 h2 h3 h4
        omega
      rw [hR]
      clear hR
      go_enter Tryz.func72, Tryz.ntmps72
      go_wp2
      go_ret
      exact ⟨rfl, hB.out⟩
  · skip
    have g0 : decide (a < (0 : Int)) = false := by simp; omega
    have g1 : decide (b < a) = false := by simp; omega
    have g2 : decide (m < (0 : Int)) = false := by simp; omega
    have g3 : (k == (0 : Int)) = false := by simp; omega
    have g4 : (k == (1 : Int)) = false := by simp; omega
    have g5 : (k == (2 : Int)) = false := by simp; omega
    have hR : decide (WfO ⟨k, m, a, b, c, v⟩) = false := by
      refine decide_eq_false fun h => ?_
      obtain ⟨h1, h2, h3, h4⟩ := h
      simp only [Formed] at h1 h2 h3 h4
      omega
    rw [hR]
    clear hR
    go_enter Tryz.func72, Tryz.ntmps72
    go_wp2
    go_ret
    exact ⟨rfl, hB.out⟩
end Go.Proofs.YtjehiekmlbeaeaaGreat

namespace Go.Proofs.YtjehiekmlbeaeaaGreat
open Go Go.RowKit
set_option linter.unusedSimpArgs false
set_option linter.unusedVariables false

theorem info_boolR : (Tryz.prog.info? 4).map (fun i => (i.zero, i.size, i.bytes)) = some (some (.bool false), 1, 1) := by kernel_rfl
theorem made_dcells (N : Nat) : madeCells #[Value.bool false] N = dcells (List.replicate N false) := by
  refine Array.ext (by simp [madeCells]) (fun i h1 h2 => ?_)
  simp [madeCells, Nat.mod_one]
set_option maxRecDepth 100000 in
set_option maxHeartbeats 8000000 in
theorem rlinear_any {w : World} {a : Option Addr} {N c : Nat} {ops : List OpR} (cap : Int) (h : InOp w a ops) (hN : ops.length = N) :
    Calls Tryz.prog 31 #[.slice a N c, .int .i64 cap] w (LinD cap ops w) := by
  have hml : N ≤ maxLen := by rw [← hN]; exact InOp.len h
  unfold maxLen at hml
  have HO := Lib.hid (And.intro h hN)
  clear h
  by_cases h12 : 12 < N
  · have hR : ¬ LinG cap ops := fun k => by have := k.1; omega
    have HR := Lib.hid hR
    clear hR
    have h12b : (12 : Int) < (N : Int) := by omega
    go_enter Tryz.func31, Tryz.ntmps31
    go_wp2
    go_ret
    exact ⟨false, rfl, ⟨fun e => (by cases e), fun k => absurd k HR.out⟩, Below.refl _ _⟩
  have h12b : decide ((12 : Int) < (N : Int)) = false := decide_eq_false (by omega)
  have H12 := Lib.hid (show N ≤ 12 by omega)
  clear h12 hN
  go_enter Tryz.func31, Tryz.ntmps31
  go_wp2_with fail
  go_loopw [5] (fun i wr => LiR w ops i wr) (fun i _ => N - (intOf i).toNat)
  case atStart => exact ⟨0, by omega, rfl, fun i hi => by omega, Below.refl _ _⟩
  case round =>
    obtain ⟨j, hj, rfl, hwf, hbw⟩ := hrel
    rw [HO.out.2] at hj
    have F := Lib.hid (And.intro hwf hbw)
    clear hwf hbw
    by_cases hlt : j < N
    case neg =>
      obtain rfl : j = N := by omega
      have hmk := fun (W : World) => run_make_row' (P := Tryz.prog) 167 4 (.bool false) 1 Tryz.underlying167 info_boolR rfl .i64 .i64 j (by have := H12.out; omega) (by have := H12.out; omega) W
      have hall := Lib.hid (InOp.wf HO.out.2 F.out.1)
      go_wp2_with fail
      have HU := Lib.hid (show Blk (wr.alloc (.cells (madeCells #[.bool false] j) 4)) wr.heap.size 4 (dcells (List.replicate j false)) from made_dcells j ▸ Blk.made wr 4 (madeCells #[.bool false] j))
      have HB := Lib.hid (F.out.2.alloc F.out.2.size (.cells (madeCells #[.bool false] j) 4))
      have HI := Lib.hid ((HO.out.1.below F.out.2).below (below_one wr (.cells (madeCells #[.bool false] j) 4)))
      have HNE := Lib.hid (show ∀ x, a = some x → 0 < j → x.block ≠ wr.heap.size from fun x hx h0 => by
        obtain ⟨y, hy, hyb, _⟩ := (HO.out.1.below F.out.2).2.2 0 (by rw [List.length_map, HO.out.2]; exact h0)
        rw [hx] at hy
        cases hy
        omega)
      have HLB := Lib.hid (show w.heap.size ≤ wr.heap.size from F.out.2.size)
      clear F hlt hj
      generalize wr.alloc (.cells (madeCells #[.bool false] j) 4) = W2 at *
      generalize wr.heap.size = ub at *
      clear hmk
      have HV := Lib.hid (show InV W2 ub (.slice none 0 0) [] from ⟨none, 0, rfl, Nat.le_refl _, ⟨rfl, by simp, fun i hi => absurd hi (by simp)⟩, by simp, fun x hx => (by cases hx), fun _ => rfl⟩)
      have HKL := Lib.hid (show (undI ops (List.replicate j false)).length ≤ 12 from by
        have h1 := H12.out
        rw [undI_none, List.length_range, HO.out.2]
        exact h1)
      have HS := Lib.hid (rsearch_any (oc := c) cap HO.out.2 H12.out (fun o ho => (hall.out o ho).2.2.2) HNE.out _ rfl HI.out (List.length_replicate ..) HU.out HV.out (by have := HKL.out; simp; omega))
      (with_reducible refine HS.out.mono ?_)
      rintro e W3 ⟨b, rfl, hiff, _, hf⟩
      have HR := Lib.hid (show (b = true ↔ LinG cap ops) ∧ Below w.heap.size w W3 from by
        rw [und_none] at hiff
        refine ⟨⟨fun e => ⟨by rw [HO.out.2]; exact H12.out, hall.out, hiff.1 e⟩, fun h => hiff.2 h.2.2⟩, below_of_fr HB.out hf (fun y hy => ?_)⟩
        simp only [List.mem_cons, List.not_mem_nil, or_false] at hy
        rw [hy]
        exact HLB.out)
      clear hiff hf
      go_wp2_with fail
      go_ret
      exact ⟨b, rfl, HR.out.1, HR.out.2⟩
    have hlt2 : (j : Int) < (N : Int) := by omega
    have hj0 : (0 : Int) ≤ (j : Int) := by omega
    obtain ⟨x, rfl, hxb, e0, e1, e2, e3, e4, e5⟩ := InOp.op (HO.out.1.below F.out.2) (i := j) (by rw [HO.out.2]; exact hlt)
    obtain ⟨o, hoj⟩ : ∃ o, ops.getD j .zero = o := ⟨_, rfl⟩
    rw [hoj] at e0 e1 e2 e3 e4 e5
    have HJ := Lib.hid hoj
    have HMEM := Lib.hid (show o ∈ ops from by
      rw [← hoj, List.getD_eq_getElem?_getD, List.getElem?_eq_getElem (by rw [HO.out.2]; exact hlt)]
      exact List.getElem_mem _)
    clear hoj
    go_wp2_with fail
    (with_reducible refine (rwf_any o _).mono ?_)
    rintro e W6 ⟨rfl, hb6⟩
    have HB6 := Lib.hid (F.out.2.trans (hb6.mono F.out.2.size))
    clear hb6
    obtain ⟨bw, hbw⟩ : ∃ bw, decide (WfO o) = bw := ⟨_, rfl⟩
    rw [hbw]
    have HBW := Lib.hid hbw
    clear hbw
    cases bw with
    | true =>
      have hnx := Lib.hid (show ∀ i, i < j + 1 → WfO (ops.getD i .zero) from fun i hi => by
        by_cases e : i = j
        · rw [e, HJ.out]; exact of_decide_eq_true HBW.out
        · exact F.out.1 i (by omega))
      go_wp2_with fail
      go_roundw
      case rel => exact ⟨j + 1, by rw [HO.out.2]; omega, by go_num, hnx.out, HB6.out⟩
      case measure => simp [intOf]; omega
    | false =>
      have HR := Lib.hid (show ¬ LinG cap ops from fun k => of_decide_eq_false HBW.out (k.2.1 _ HMEM.out))
      go_wp2_with fail
      go_ret
      exact ⟨false, rfl, ⟨fun e => (by cases e), fun k => absurd k HR.out⟩, HB6.out⟩
end Go.Proofs.YtjehiekmlbeaeaaGreat
