/-
  The walk of the statement HistoryLinear: it returns true. (Written by gen_l11l.py.)
-/
import Derived.Test.YtjehiekmlbeaeaaGreatMgAZ
import Derived.Test.YtjehiekmlbeaeaaGreatMgBH
import Derived.Test.YtjehiekmlbeaeaaGreatRpG
import Derived.Test.YtjehiekmlbeaeaaGreatMgBZ
import Derived.LoopTactic
import Derived.OwnWalk
import Derived.Deep.Cut
import Derived.Deep.CutRange
namespace Go.Proofs.YtjehiekmlbeaeaaGreat
open Go Go.RowKit Go.Shelf
set_option linter.unusedSimpArgs false
set_option linter.unusedVariables false

/-- The reference's game on a plan of a law. -/
theorem rgame_any {w0 w : World} {ob K cnt C M d : Nat} {z : Int} {b : Option Addr} {P : List (List ActR)} {V : List Value} {picks : List Int} (h : PO w0 w ob K P V) (hk : PlnOk cnt P) (hK : 2 ≤ K ∧ K ≤ 4) (hc : cnt ≤ 100) (hz : z = (C : Int)) (h1 : 1 ≤ C) (h2 : C ≤ 64) (hp : InInts w b M picks) (hM : M ≤ 400)
    (hr : ∀ i, i < M → -9223372036854775808 ≤ picks.getD i 0 ∧ picks.getD i 0 ≤ 9223372036854775807) :
    Calls Tryz.prog 29 #[.int .i64 z, .slice (some ⟨ob, 0, none⟩) K K, .slice b M d] w fun e w' => ∃ v r, e = .returned v ∧ OwnG w' w.heap.size 80 6 v (r.map opL) ∧ GameG C cnt r ∧ Below w.heap.size w w' := by
  obtain ⟨k1, k2, k3, _⟩ := hk.first (St.new (sizeS (2 + (C : Int))))
  have hin : RlyIn w (some ⟨ob, 0, none⟩) b K M P picks (sizeS (2 + (C : Int))) := ⟨h.inPl hk (by omega), h.lp, by omega, hp, by omega, k1, hr, by rw [k2]; omega, by rw [k3]; omega⟩
  refine (rplay_any (C := C) (z := z) (c := K) (d := d) hin (by omega)).mono ?_
  rintro e w' ⟨v, r, rfl, hown, hpl, hb⟩
  exact ⟨v, r, rfl, hown, game_good hpl hk (by rw [h.lp]; exact hK.1) h1 (by omega) (by rw [hp.1]; exact hM) hc, hb⟩
theorem InG.take {w : World} {k : Nat} {a : Option Addr} {R : List (List Value)} (h : InG w k a R) (m : Nat) : InG w k a (R.take m) := by
  refine ⟨Nat.le_trans (by rw [List.length_take]; omega) h.1, fun r hr => h.2.1 r (List.mem_of_mem_take hr), fun i hi => ?_⟩
  rw [List.length_take] at hi
  obtain ⟨x, e, hx, hc⟩ := h.2.2 i (by omega)
  refine ⟨x, e, hx, fun j hj => ?_⟩
  rw [hc j hj, List.getD_eq_getElem?_getD, List.getD_eq_getElem?_getD, List.getElem?_take, if_pos (by omega)]
/-- The numbers of operations are ints. -/
abbrev OpsI (l : List OpR) : Prop := ∀ o, o ∈ l → (Lit.int .i64 o.v).wf = true ∧ o.a ≤ 9223372036854775807
theorem lit_wf {x : Int} (h : -9223372036854775808 ≤ x ∧ x ≤ 9223372036854775807) : (Lit.int .i64 x).wf = true := by
  have e0 : IntKind.i64.min = -9223372036854775808 := rfl
  have e1 : IntKind.i64.max = 9223372036854775807 := rfl
  simp only [Lit.wf, Bool.and_eq_true, decide_eq_true_eq, e0, e1]
  exact h
theorem opsI_of {l : List OpR} {n : Nat} (hl : l.length = n) (h : ∀ i, i < n → (-9223372036854775808 ≤ (l.getD i .zero).k ∧ (l.getD i .zero).k ≤ 9223372036854775807) ∧ (-9223372036854775808 ≤ (l.getD i .zero).m ∧ (l.getD i .zero).m ≤ 9223372036854775807) ∧ (-9223372036854775808 ≤ (l.getD i .zero).a ∧ (l.getD i .zero).a ≤ 9223372036854775807) ∧ (-9223372036854775808 ≤ (l.getD i .zero).b ∧ (l.getD i .zero).b ≤ 9223372036854775807) ∧ (-9223372036854775808 ≤ (l.getD i .zero).c ∧ (l.getD i .zero).c ≤ 9223372036854775807) ∧ (-9223372036854775808 ≤ (l.getD i .zero).v ∧ (l.getD i .zero).v ≤ 9223372036854775807)) : OpsI l := fun o ho => by
  obtain ⟨i, hi, rfl⟩ := List.mem_iff_getElem.1 ho
  obtain ⟨_, _, h3, _, _, h6⟩ := h i (by omega)
  rw [List.getD_eq_getElem?_getD, List.getElem?_eq_getElem hi] at h3 h6
  exact ⟨lit_wf h6, h3.2⟩
theorem lin_same {cap : Int} {l : List OpR} {b b' : Bool} (h : b = true ↔ LinG cap l) (h' : b' = true ↔ LinG cap l) : b = b' := by
  cases b <;> cases b' <;> simp_all

/-- Where the number that is changed lies, and what it is. -/
def tpA (xg q cb j : Nat) : Addr := if j = 5 then ⟨cb, 0, none⟩ else ⟨xg, q + ([0, 2, 3, 4, 5] : List Nat).getD j 0, none⟩
def tvA (o : OpR) (C : Int) (j : Nat) : Int := ([o.k, o.a, o.b, o.c, o.v, C] : List Int).getD j 0
abbrev mcA (xg q cb : Nat) : Array Value := #[.pointer (some ⟨xg, q + 0, none⟩), .pointer (some ⟨xg, q + 2, none⟩), .pointer (some ⟨xg, q + 3, none⟩), .pointer (some ⟨xg, q + 4, none⟩), .pointer (some ⟨xg, q + 5, none⟩), .pointer (some ⟨cb, 0, none⟩)]
theorem own_cell {w : World} {B xg m xc y1 : Nat} {r : List OpR} (ho : OwnG w B 80 6 (.slice (some ⟨xg, 0, none⟩) m xc) (r.map opL)) (hm : r.length = m) (hy : y1 < m) {j : Nat} (hj : j < 6) : w.cell? ⟨xg, y1 * 6 + j, none⟩ = (opL (r.getD y1 .zero))[j]? := by
  obtain ⟨g, cap, cur, e, _, hb, _, _, _, hc⟩ := ho.blk (by intro e; have := congrArg List.length e; rw [List.length_map, hm] at this; simp at this; omega)
  simp only [Value.slice.injEq, Option.some.injEq, Addr.mk.injEq] at e
  obtain ⟨⟨rfl, _⟩, _⟩ := e
  have e : (r.map opL).getD y1 [] = opL (r.getD y1 .zero) := by
    rw [List.getD_eq_getElem?_getD, List.getD_eq_getElem?_getD, List.getElem?_map, List.getElem?_eq_getElem (by rw [hm]; exact hy)]
    rfl
  rw [hb.at_, hc y1 j (by rw [List.length_map, hm]; exact hy) hj, e]
theorem chg_cells {w : World} {B xg m xc y1 cb mb : Nat} {r : List OpR} {C : Int} (ho : OwnG w B 80 6 (.slice (some ⟨xg, 0, none⟩) m xc) (r.map opL)) (hm : r.length = m) (hy : y1 < m) (hk : Blk w cb 3 #[.int .i64 C]) (hb : Blk w mb 81 (mcA xg (y1 * 6) cb)) :
    ∀ j, j < 6 → w.cell? ⟨mb, j, none⟩ = some (.pointer (some (tpA xg (y1 * 6) cb j))) ∧ w.cell? (tpA xg (y1 * 6) cb j) = some (.int .i64 (tvA (r.getD y1 .zero) C j)) := by
  intro j hj
  match j, hj with
  | 0, _ => exact ⟨hb.at_ 0, own_cell ho hm hy (j := 0) (by omega)⟩
  | 1, _ => exact ⟨hb.at_ 1, own_cell ho hm hy (j := 2) (by omega)⟩
  | 2, _ => exact ⟨hb.at_ 2, own_cell ho hm hy (j := 3) (by omega)⟩
  | 3, _ => exact ⟨hb.at_ 3, own_cell ho hm hy (j := 4) (by omega)⟩
  | 4, _ => exact ⟨hb.at_ 4, own_cell ho hm hy (j := 5) (by omega)⟩
  | 5, _ => exact ⟨hb.at_ 5, hk.at_ 0⟩
theorem opsI_set {r : List OpR} (h : OpsI r) {y1 : Nat} {o : OpR} (ho : (Lit.int .i64 o.v).wf = true ∧ o.a ≤ 9223372036854775807) : OpsI (r.set y1 o) := fun x hx => by
  rcases List.mem_or_eq_of_mem_set hx with hx | rfl
  · exact h x hx
  · exact ho
theorem own_set {w : World} {B xg m xc y1 j : Nat} {r : List OpR} {x : Int} {o : OpR} (ho : OwnG w B 80 6 (.slice (some ⟨xg, 0, none⟩) m xc) (r.map opL)) (hm : r.length = m) (hy : y1 < m) (hj : j < 6) (he : opL o = (opL (r.getD y1 .zero)).set j (.int .i64 x)) :
    OwnG (w.setCell ⟨xg, y1 * 6 + j, none⟩ (.int .i64 x)) B 80 6 (.slice (some ⟨xg, 0, none⟩) m xc) ((r.set y1 o).map opL) := by
  have h := ho.put (i := y1) (j := j) (by rw [List.length_map, hm]; exact hy) hj (u := .int .i64 x) rfl
  have e : (r.map opL).getD y1 [] = opL (r.getD y1 .zero) := by
    rw [List.getD_eq_getElem?_getD, List.getD_eq_getElem?_getD, List.getElem?_map, List.getElem?_eq_getElem (by rw [hm]; exact hy)]
    rfl
  rw [e, ← he, ← List.map_set] at h
  exact h
theorem chg_end {w0 w : World} {xg m xc y1 cb y2 : Nat} {r : List OpR} {C x : Int} (ho : OwnG w w0.heap.size 80 6 (.slice (some ⟨xg, 0, none⟩) m xc) (r.map opL)) (hm : r.length = m) (hy : y1 < m) (hk : Blk w cb 3 #[.int .i64 C]) (hx : ∃ cur, Blk w xg 80 cur) (hi : OpsI r) (hy2 : y2 < 6) (hx2 : -9223372036854775808 ≤ x ∧ x ≤ 9223372036854775807) (hb : Below w0.heap.size w0 w) (hc : w0.heap.size ≤ cb) (hg : w0.heap.size ≤ xg) :
    ∃ (r' : List OpR) (C' : Int), Blk (w.setCell (tpA xg (y1 * 6) cb y2) (.int .i64 x)) cb 3 #[.int .i64 C'] ∧ OwnG (w.setCell (tpA xg (y1 * 6) cb y2) (.int .i64 x)) w0.heap.size 80 6 (.slice (some ⟨xg, 0, none⟩) m xc) (r'.map opL) ∧ r'.length = m ∧ OpsI r' ∧ Below w0.heap.size w0 (w.setCell (tpA xg (y1 * 6) cb y2) (.int .i64 x)) := by
  obtain ⟨cur, hxb⟩ := hx
  have hne : cb ≠ xg := hk.apart hxb (by decide)
  have hold := hi (r.getD y1 .zero) (by rw [List.getD_eq_getElem?_getD, List.getElem?_eq_getElem (by rw [hm]; exact hy)]; exact List.getElem_mem _)
  have hw := lit_wf hx2
  have op : ∀ (j : Nat) (o : OpR), j < 6 → opL o = (opL (r.getD y1 .zero)).set j (.int .i64 x) → ((Lit.int .i64 o.v).wf = true ∧ o.a ≤ 9223372036854775807) →
      ∃ (r' : List OpR) (C' : Int), Blk (w.setCell ⟨xg, y1 * 6 + j, none⟩ (.int .i64 x)) cb 3 #[.int .i64 C'] ∧ OwnG (w.setCell ⟨xg, y1 * 6 + j, none⟩ (.int .i64 x)) w0.heap.size 80 6 (.slice (some ⟨xg, 0, none⟩) m xc) (r'.map opL) ∧ r'.length = m ∧ OpsI r' ∧ Below w0.heap.size w0 (w.setCell ⟨xg, y1 * 6 + j, none⟩ (.int .i64 x)) :=
    fun j o hj he hi2 => ⟨r.set y1 o, C, hk.of_same (Below.heap_setCell w ⟨xg, y1 * 6 + j, none⟩ (.int .i64 x) cb hne), own_set ho hm hy hj he, by rw [List.length_set]; exact hm, opsI_set hi hi2, hb.setCell (p := ⟨xg, y1 * 6 + j, none⟩) hg (.int .i64 x)⟩
  match y2, hy2 with
  | 0, _ => exact op 0 { r.getD y1 .zero with k := x } (by omega) rfl hold
  | 1, _ => exact op 2 { r.getD y1 .zero with a := x } (by omega) rfl ⟨hold.1, hx2.2⟩
  | 2, _ => exact op 3 { r.getD y1 .zero with b := x } (by omega) rfl hold
  | 3, _ => exact op 4 { r.getD y1 .zero with c := x } (by omega) rfl hold
  | 4, _ => exact op 5 { r.getD y1 .zero with v := x } (by omega) rfl ⟨hw, hold.2⟩
  | 5, _ =>
    refine ⟨r, x, hk.put 0 (.int .i64 x), ho.same (fun b hb2 => Below.heap_setCell w ⟨cb, 0, none⟩ (.int .i64 x) b (fun e => ?_)), hm, hi, hb.setCell (p := ⟨cb, 0, none⟩) hc (.int .i64 x)⟩
    obtain ⟨cur2, hc2⟩ := ho.ty b hb2
    subst e
    exact absurd rfl (hk.apart hc2 (by decide))

set_option maxRecDepth 100000 in
set_option maxHeartbeats 16000000 in
theorem hlinear_law {w : World} {a ra pa : Option Addr} {n rn pn : Nat} {l : List OpR} {rz pz : List Int} (c rc pc : Nat) (ca wh bq : Int) (h : l.length = n ∧ n ≤ c ∧ InOp w a l ∧ OpsI l) (hr : InInts w ra rn rz ∧ ∀ x, x ∈ rz → -9223372036854775808 ≤ x ∧ x ≤ 9223372036854775807) (hp : InInts w pa pn pz ∧ ∀ x, x ∈ pz → -9223372036854775808 ≤ x ∧ x ≤ 9223372036854775807) :
    Calls Tryz.prog 5 #[.slice a n c, .int .i64 ca, .slice ra rn rc, .slice pa pn pc, .int .i64 wh, .int .i64 bq] w fun e w' => e = .returned (.bool true) ∧ Below w.heap.size w w' := by
  have hmr := hr.1.2.1
  have hmp := hp.1.2.1
  unfold maxLen at hmr hmp
  have HR := Lib.hid hr
  have HPK := Lib.hid hp
  have HLI := Lib.hid h
  have hmn : n ≤ 9223372036854775807 := by
    have := h.2.2.1.len
    unfold maxLen at this
    rw [h.1] at this
    omega
  have hnc := h.2.1
  clear hr hp h
  have B0 := Lib.hid (below_one w (.cells #[.int .i64 ca] 3))
  have K0 := Lib.hid (Blk.made w 3 #[.int .i64 ca])
  by_cases h40 : 40 < n
  · have d1 : decide (40 < (n : Int)) = true := decide_eq_true (by omega)
    go_enter Tryz.func5, Tryz.ntmps5
    go_wp2
    go_ret
    exact ⟨rfl, B0.out⟩
  have d1 : decide (40 < (n : Int)) = false := decide_eq_false (by omega)
  obtain ⟨sb, hsb⟩ : ∃ sb, (decide ((rn : Int) ≤ 400) && decide ((pn : Int) ≤ 400)) = sb := ⟨_, rfl⟩
  have HSB := Lib.hid hsb
  clear hsb
  go_enter Tryz.func5, Tryz.ntmps5
  go_upto_region 1 with fail
  have hcb1 : w.heap.size < (w.alloc (.cells #[.int .i64 ca] 3)).heap.size := by simp
  generalize w.alloc (.cells #[.int .i64 ca] 3) = W0 at *
  obtain ⟨cb, hcb⟩ : ∃ cb, w.heap.size = cb := ⟨_, rfl⟩
  have HCB := Lib.hid (And.intro hcb hcb1)
  rw [hcb] at K0 ⊢
  clear hcb hcb1
  have hX := Blk.made W0 60 #[.slice ra rn rc, .slice pa pn pc]
  have HS := Lib.hid (short2_any hX (by omega) (by omega))
  rw [HSB.out] at HS
  have B1 := Lib.hid (B0.out.trans ((below_one W0 (.cells #[.slice ra rn rc, .slice pa pn pc] 60)).mono B0.out.size))
  have K1 := Lib.hid (K0.out.alloc (.cells #[.slice ra rn rc, .slice pa pn pc] 60))
  clear hX
  go_wp2_with fail
  (with_reducible refine HS.out.mono ?_)
  rintro e w1 ⟨rfl, rfl⟩
  generalize W0.alloc (.cells #[.slice ra rn rc, .slice pa pn pc] 60) = W1 at *
  clear HS K0 B0
  cases sb with
  | false =>
    go_wp2
    go_ret
    exact ⟨rfl, B1.out⟩
  | true =>
  have HLN := Lib.hid (show rn ≤ 400 ∧ pn ≤ 400 by
    have := HSB.out
    simp only [Bool.and_eq_true, decide_eq_true_eq] at this
    omega)
  clear HSB
  have hpr : ∀ i, i < pn → -9223372036854775808 ≤ pz.getD i 0 ∧ pz.getD i 0 ≤ 9223372036854775807 := fun i hi => by
    have hl := HPK.out.1.1
    rw [List.getD_eq_getElem?_getD, List.getElem?_eq_getElem (by omega)]
    exact HPK.out.2 _ (List.getElem_mem _)
  have HPR := Lib.hid hpr
  clear hpr
  have HLI1 := Lib.hid (show l.length = n ∧ InOp W1 a l ∧ OpsI l from ⟨HLI.out.1, HLI.out.2.2.1.below B1.out, HLI.out.2.2.2⟩)
  go_upto_region 3 with fail
  obtain ⟨sl, hsl⟩ : ∃ sl, (decide (7 < (n : Int)) && decide ((n : Int) ≤ 12)) = sl := ⟨_, rfl⟩
  have HSL := Lib.hid hsl
  clear hsl
  go_cut [33] from 26 to 33 (fun v wx => wx = W1 ∧ v = .bool sl)
  case first =>
    by_cases h7 : 7 < n
    · have d2 : decide (7 < (n : Int)) = true := decide_eq_true (by omega)
      by_cases h12 : n ≤ 12
      · have d3 : decide ((n : Int) ≤ 12) = true := decide_eq_true (by omega)
        have e := HSL.out
        rw [d2, d3] at e
        subst e
        go_wp2_with fail
        go_meet
        case rel => exact ⟨rfl, rfl⟩
      · have d3 : decide ((n : Int) ≤ 12) = false := decide_eq_false (by omega)
        have e := HSL.out
        rw [d2, d3] at e
        subst e
        go_wp2_with fail
        go_meet
        case rel => exact ⟨rfl, rfl⟩
    · have d2 : decide (7 < (n : Int)) = false := decide_eq_false (by omega)
      have e := HSL.out
      rw [d2] at e
      subst e
      go_wp2_with fail
      go_meet
      case rel => exact ⟨rfl, rfl⟩
  case rest =>
  obtain ⟨rfl, rfl⟩ := hcut
  go_upto_if 33 with fail
  go_cut [0] from 34 to 35 (fun v wx => wx = wc ∧ ∃ (n1 : Nat) (l1 : List OpR), v = .slice a n1 c ∧ l1.length = n1 ∧ InOp wc a l1 ∧ OpsI l1)
  case first =>
    cases sl with
    | true =>
      have h12 := HSL.out
      simp only [Bool.and_eq_true, decide_eq_true_eq] at h12
      obtain ⟨x, rfl, _⟩ := HLI1.out.2.1.2.2 0 (by rw [List.length_map, HLI1.out.1]; omega)
      have hc7 : 7 ≤ c := by omega
      have hc0 : ¬ c = 0 := by omega
      go_wp2_with fail
      go_meet
      case rel => exact ⟨rfl, 7, l.take 7, rfl, by rw [List.length_take, HLI1.out.1]; omega, by show InG _ 6 _ ((l.take 7).map opL); rw [List.map_take]; exact HLI1.out.2.1.take 7, fun o ho => HLI1.out.2.2 o (List.mem_of_mem_take ho)⟩
    | false =>
      go_wp2_with fail
      go_meet
      case rel => exact ⟨rfl, n, l, rfl, HLI1.out.1, HLI1.out.2.1, HLI1.out.2.2⟩
  case rest =>
  obtain ⟨rfl, n1, l1, rfl, hn1, hin1, hop1⟩ := hcut
  have HL1 := Lib.hid (And.intro hn1 (And.intro hin1 hop1))
  have hn1b : n1 ≤ 9223372036854775807 := by
    have := hin1.len
    unfold maxLen at this
    omega
  clear hn1 hin1 hop1 HLI1 HSL
  generalize wc = W2 at *
  go_upto_region 5 with fail
  refine wp_region_held_drew (S := (fun u => u.cell? ⟨cb, 0, none⟩ = some (.int .i64 ca))) (by kernel_rfl) (K1.out.at_ 0) (fun _ => ?_)
  change wpAnyH _ _ _ _ _ 11 #[false, false, false, false, false, false, false, false, false, false, false] _ (World.drew _)
  have HW := Lib.hid (B1.out.trans (below_drew (Below.refl _ _)))
  have HK := Lib.hid (show Blk W2.drew cb 3 #[.int .i64 ca] from K1.out.below (below_drew (Below.refl _ _)))
  have HI := Lib.hid (HL1.out.2.1.below (below_drew (Below.refl _ _)))
  clear B1 K1
  generalize W2.drew = W3 at *
  refine wpAnyH_ready (rs := [0]) (by kernel_rfl) (by simp) ?_
  refine AllReadyH.cons rfl (fun KK hK => ?_) AllReadyH.nil
  go_simp
  go_at_call 26
  (with_reducible refine (awake11_any _).mono ?_)
  rintro e w4 ⟨rfl, b4⟩
  have HW4 := Lib.hid (HW.out.trans (b4.mono HW.out.size))
  have HK4 := Lib.hid (HK.out.below b4)
  have HI4 := Lib.hid (HI.out.below b4)
  clear b4 HW HK HI
  refine hK.out _ _ (HK4.out.at_ 0) (fun _ => ?_)
  clear hK KK
  simp only [List.setIfInBounds_toArray, List.set_cons_zero, List.set_cons_succ]
  refine wpAnyH_take (i := 1) (v := .bool false) rfl (by kernel_rfl) (by kernel_rfl) (by kernel_rfl) (fun _ _ _ h => h) (Or.inl ⟨by rfl, fun u hu => by (go_simp)⟩) (HK4.out.at_ 0) ?_
  simp only [List.getElem_toArray, List.getElem_cons_succ, List.getElem_cons_zero, Act.put, List.setIfInBounds_toArray, List.set_cons_zero, List.set_cons_succ]
  refine wpAnyH_take (i := 2) (v := .bool false) rfl (by kernel_rfl) (by kernel_rfl) (by kernel_rfl) (fun _ _ _ h => h) (Or.inl ⟨by rfl, fun u hu => by (go_simp)⟩) (HK4.out.at_ 0) ?_
  simp only [List.getElem_toArray, List.getElem_cons_succ, List.getElem_cons_zero, Act.put, List.setIfInBounds_toArray, List.set_cons_zero, List.set_cons_succ]
  refine wpAnyH_take (i := 3) (v := .slice a n1 c) rfl (by kernel_rfl) (by kernel_rfl) (by kernel_rfl) (fun _ _ _ h => h) (Or.inl ⟨by rfl, fun u hu => by (go_simp)⟩) (HK4.out.at_ 0) ?_
  simp only [List.getElem_toArray, List.getElem_cons_succ, List.getElem_cons_zero, Act.put, List.setIfInBounds_toArray, List.set_cons_zero, List.set_cons_succ]
  refine wpAnyH_take (i := 4) (v := .int .i64 ca) rfl (by kernel_rfl) (by kernel_rfl) (by kernel_rfl) (fun _ _ _ h => h) (Or.inl ⟨by rfl, fun u hu => by (have c1 := hu; go_simp)⟩) (HK4.out.at_ 0) ?_
  simp only [List.getElem_toArray, List.getElem_cons_succ, List.getElem_cons_zero, Act.put, List.setIfInBounds_toArray, List.set_cons_zero, List.set_cons_succ]
  refine wpAnyH_take (i := 6) (v := .slice a n1 c) rfl (by kernel_rfl) (by kernel_rfl) (by kernel_rfl) (fun _ _ _ h => h) (Or.inl ⟨by rfl, fun u hu => by (go_simp)⟩) (HK4.out.at_ 0) ?_
  simp only [List.getElem_toArray, List.getElem_cons_succ, List.getElem_cons_zero, Act.put, List.setIfInBounds_toArray, List.set_cons_zero, List.set_cons_succ]
  refine wpAnyH_take (i := 7) (v := .int .i64 ca) rfl (by kernel_rfl) (by kernel_rfl) (by kernel_rfl) (fun _ _ _ h => h) (Or.inl ⟨by rfl, fun u hu => by (have c1 := hu; go_simp)⟩) (HK4.out.at_ 0) ?_
  simp only [List.getElem_toArray, List.getElem_cons_succ, List.getElem_cons_zero, Act.put, List.setIfInBounds_toArray, List.set_cons_zero, List.set_cons_succ]
  refine wpAnyH_ready (rs := [5]) (by kernel_rfl) (by simp) ?_
  refine AllReadyH.cons rfl (fun KK hK => ?_) AllReadyH.nil
  go_simp
  go_at_call 30
  (with_reducible refine (linear_any ca HI4.out HL1.out.1 HL1.out.2.2).mono ?_)
  rintro e w5 ⟨b5, rfl, hb5, b5w⟩
  have HW5 := Lib.hid (HW4.out.trans (b5w.mono HW4.out.size))
  have HK5 := Lib.hid (HK4.out.below b5w)
  have HI5 := Lib.hid (HI4.out.below b5w)
  have HB5 := Lib.hid hb5
  clear b5w hb5 HW4 HK4 HI4
  refine hK.out _ _ (HK5.out.at_ 0) (fun _ => ?_)
  clear hK KK
  simp only [List.setIfInBounds_toArray, List.set_cons_zero, List.set_cons_succ]
  refine wpAnyH_ready (rs := [8]) (by kernel_rfl) (by simp) ?_
  refine AllReadyH.cons rfl (fun KK hK => ?_) AllReadyH.nil
  go_simp
  go_at_call 31
  (with_reducible refine (rlinear_any ca HI5.out HL1.out.1).mono ?_)
  rintro e w6 ⟨b6, rfl, hb6, b6w⟩
  have HW6 := Lib.hid (HW5.out.trans (b6w.mono HW5.out.size))
  have HK6 := Lib.hid (HK5.out.below b6w)
  obtain rfl : b5 = b6 := lin_same HB5.out hb6
  clear b6w hb6 HB5 HW5 HK5 HI5
  refine hK.out _ _ (HK6.out.at_ 0) (fun _ => ?_)
  clear hK KK
  simp only [List.setIfInBounds_toArray, List.set_cons_zero, List.set_cons_succ]
  have hbb : (b5 != b5) = false := by cases b5 <;> rfl
  refine wpAnyH_take (i := 9) (v := .bool false) rfl (by kernel_rfl) (by kernel_rfl) (by kernel_rfl) (fun _ _ _ h => h) (Or.inl ⟨by rfl, fun u hu => by (have hq := hbb; go_simp)⟩) (HK6.out.at_ 0) ?_
  simp only [List.getElem_toArray, List.getElem_cons_succ, List.getElem_cons_zero, Act.put, List.setIfInBounds_toArray, List.set_cons_zero, List.set_cons_succ]
  refine wpAnyH_take (i := 10) (v := .bool false) rfl (by kernel_rfl) (by kernel_rfl) (by kernel_rfl) (fun _ _ _ h => h) (Or.inl ⟨by rfl, fun u hu => by (go_simp)⟩) (HK6.out.at_ 0) ?_
  simp only [List.getElem_toArray, List.getElem_cons_succ, List.getElem_cons_zero, Act.put, List.setIfInBounds_toArray, List.set_cons_zero, List.set_cons_succ]
  refine wpAnyH_done (by kernel_rfl) ?_ _
  clear hbb
  generalize w6 = W6 at *
  have c7 := HK6.out.at_ 0
  have f7 := HK6.out.free 0
  go_wp2_with fail
  have I0 := Lib.hid (ints_lone W6 ca)
  have hb0 := below_one W6 (.cells #[.int .i64 ca] 3)
  (with_reducible refine (keepnum0 I0.out 1 3 (by omega) (by omega)).mono ?_)
  rintro e u0 ⟨y, hy, rfl, nd0, rfl⟩
  have hb7 := hb0.trans ((below_drewN (W6.alloc (.cells #[.int .i64 ca] 3)) nd0).mono hb0.size)
  have B7 := Lib.hid (HW6.out.trans (hb7.mono HW6.out.size))
  have K7 := Lib.hid (HK6.out.below hb7)
  clear I0 hb0 hb7 HW6 HK6 c7 f7
  generalize (W6.alloc (.cells #[.int .i64 ca] 3)).drewN nd0 = W7 at *
  obtain ⟨C, hC⟩ : ∃ C, 1 + y = C := ⟨_, rfl⟩
  have hCy : (1 : Int) + (y : Int) = (C : Int) := by omega
  have HCC := Lib.hid (show 1 ≤ C ∧ C ≤ 8 by omega)
  clear hC
  have c7 := K7.out.at_ 0
  have f7 := K7.out.free 0
  go_upto_region 8 with fail
  have B8 := Lib.hid (B7.out.setCell (p := ⟨cb, 0, none⟩) (Nat.le_of_eq HCB.out.1) (.int .i64 (C : Int)))
  have K8 := Lib.hid (show Blk (W7.setCell ⟨cb, 0, none⟩ (.int .i64 (C : Int))) cb 3 #[.int .i64 (C : Int)] from K7.out.put 0 _)
  clear c7 f7 K7 B7 hCy
  generalize W7.setCell ⟨cb, 0, none⟩ (.int .i64 (C : Int)) = W8 at *
  refine wp_region_held_drew (S := (fun u => u.cell? ⟨cb, 0, none⟩ = some (.int .i64 (C : Int)))) (by kernel_rfl) (K8.out.at_ 0) (fun _ => ?_)
  change wpAnyH _ _ _ _ _ 6 #[false, false, false, false, false, false] _ (World.drew _)
  have B9 := Lib.hid (B8.out.trans ((below_drew (Below.refl W8.heap.size W8)).mono B8.out.size))
  have K9 := Lib.hid (K8.out.below (below_drew (Below.refl _ _)))
  clear B8 K8
  generalize W8.drew = W9 at *
  refine wpAnyH_take (i := 0) (v := .int .i64 (C : Int)) rfl (by kernel_rfl) (by kernel_rfl) (by kernel_rfl) (fun _ _ _ h => h) (Or.inl ⟨by rfl, fun u hu => by (have c1 := hu; go_simp)⟩) (K9.out.at_ 0) ?_
  simp only [List.getElem_toArray, List.getElem_cons_succ, List.getElem_cons_zero, Act.put, List.setIfInBounds_toArray, List.set_cons_zero, List.set_cons_succ]
  refine wpAnyH_take (i := 1) (v := .slice ra rn rc) rfl (by kernel_rfl) (by kernel_rfl) (by kernel_rfl) (fun _ _ _ h => h) (Or.inl ⟨by rfl, fun u hu => by (go_simp)⟩) (K9.out.at_ 0) ?_
  simp only [List.getElem_toArray, List.getElem_cons_succ, List.getElem_cons_zero, Act.put, List.setIfInBounds_toArray, List.set_cons_zero, List.set_cons_succ]
  have hpl0 := plan_any (n := 7) (c := rc) (HR.out.1.below B9.out) HLN.out.1 (by omega)
  rw [show ((7 : Nat) : Int) = 7 from rfl] at hpl0
  have HPA := Lib.hid hpl0
  clear hpl0
  refine wpAnyH_take (i := 3) (v := .slice pa pn pc) rfl (by kernel_rfl) (by kernel_rfl) (by kernel_rfl) (fun _ _ _ h => h) (Or.inl ⟨by rfl, fun u hu => by (go_simp)⟩) (K9.out.at_ 0) ?_
  simp only [List.getElem_toArray, List.getElem_cons_succ, List.getElem_cons_zero, Act.put, List.setIfInBounds_toArray, List.set_cons_zero, List.set_cons_succ]
  refine wpAnyH_ready (rs := [2]) (by kernel_rfl) (by simp) ?_
  refine AllReadyH.cons rfl (fun KK hK => ?_) AllReadyH.nil
  go_simp
  go_at_call 24
  (with_reducible refine HPA.out.mono ?_)
  rintro e w3 ⟨ob, K, P, V, cnt, rfl, hpo, hok, hK1, hK2, hcnt⟩
  have BA := Lib.hid (B9.out.trans (hpo.b.mono B9.out.size))
  have KA := Lib.hid (K9.out.below hpo.b)
  have PO3 := Lib.hid hpo
  have PK := Lib.hid (And.intro hok (And.intro (And.intro hK1 hK2) hcnt))
  clear hpo hok hK1 hK2 hcnt HPA B9 K9
  refine hK.out _ _ (KA.out.at_ 0) (fun _ => ?_)
  clear hK KK
  simp only [List.setIfInBounds_toArray, List.set_cons_zero, List.set_cons_succ]
  have HG := Lib.hid (fun d => rgame_any (C := C) (z := (C : Int)) (d := d) PO3.out PK.out.1 PK.out.2.1 (by have := PK.out.2.2; omega) rfl HCC.out.1 (by have := HCC.out.2; omega) (HPK.out.1.below BA.out) HLN.out.2 HPR.out)
  refine wpAnyH_ready (rs := [4]) (by kernel_rfl) (by simp) ?_
  refine AllReadyH.cons rfl (fun KK hK => ?_) AllReadyH.nil
  go_simp
  go_at_call 29
  (with_reducible refine (HG.out _).mono ?_)
  rintro e w4 ⟨v, r, rfl, ho4, hg4, hb4⟩
  have BB := Lib.hid (BA.out.trans (hb4.mono BA.out.size))
  have KB := Lib.hid (KA.out.below hb4)
  have HO := Lib.hid (ho4.mono BA.out.size)
  have GG := Lib.hid hg4
  obtain ⟨xa, xc, hv, hxc⟩ := ho4.form
  obtain ⟨m, hm⟩ : ∃ m, (r.map opL).length = m := ⟨_, rfl⟩
  rw [hm] at hv hxc
  subst hv
  have HM := Lib.hid (show r.length = m ∧ m ≤ 100 from by rw [List.length_map] at hm; refine ⟨hm, ?_⟩; rw [← hm, hg4.len]; have := PK.out.2.2; omega)
  clear ho4 hg4 hb4 hm BA KA HG PO3 PK
  refine hK.out _ _ (KB.out.at_ 0) (fun _ => ?_)
  clear hK KK
  simp only [List.setIfInBounds_toArray, List.set_cons_zero, List.set_cons_succ]
  refine wpAnyH_take (i := 5) (v := .slice xa m xc) rfl (by kernel_rfl) (by kernel_rfl) (by kernel_rfl) (fun _ _ _ h => h) (Or.inl ⟨by rfl, fun u hu => by (go_simp)⟩) (KB.out.at_ 0) ?_
  simp only [List.getElem_toArray, List.getElem_cons_succ, List.getElem_cons_zero, Act.put, List.setIfInBounds_toArray, List.set_cons_zero, List.set_cons_succ]
  refine wpAnyH_done (by kernel_rfl) ?_ _
  have hm9 : m ≤ 100 := HM.out.2
  generalize w4 = WB at *
  go_upto_if 58 with fail
  go_cut [14, 15] from 58 to 96 (fun _ _ wx => ∃ (r' : List OpR) (C' : Int), Blk wx cb 3 #[.int .i64 C'] ∧ OwnG wx w.heap.size 80 6 (.slice xa m xc) (r'.map opL) ∧ r'.length = m ∧ OpsI r' ∧ Below w.heap.size w wx)
  case first =>
    by_cases hm0 : m = 0
    · have d5 : decide (0 < (m : Int)) = false := decide_eq_false (by omega)
      go_wp2_with fail
      go_meet
      case rel => exact ⟨r, C, KB.out, HO.out, HM.out.1, fit_lin GG.out.fit, BB.out⟩
    · have d5 : decide (0 < (m : Int)) = true := decide_eq_true (by omega)
      obtain ⟨xg, xc2, cur, hxe, hxB, hxb, _⟩ := HO.out.blk (by intro e; have := congrArg List.length e; rw [List.length_map, HM.out.1] at this; exact hm0 this)
      obtain rfl : xa = some ⟨xg, 0, none⟩ := by cases hxe; rfl
      have HXG := Lib.hid (And.intro hxB (show ∃ cur, Blk WB xg 80 cur from ⟨_, hxb⟩))
      clear hxe hxB hxb
      obtain ⟨q6, hq6⟩ : ∃ q6, wh.tdiv 6 = q6 := ⟨_, rfl⟩
      obtain ⟨q7, hq7⟩ : ∃ q7, wrap64 q6 = q7 := ⟨_, rfl⟩
      go_wp2_with fail
      have I0 := Lib.hid (ints_lone WB q7)
      have hb0 := below_one WB (.cells #[.int .i64 q7] 3)
      (with_reducible refine (keepnum0 I0.out 1 m (by omega) (by omega)).mono ?_)
      rintro e u0 ⟨y1, hy1, rfl, nd1, rfl⟩
      have hb7 := hb0.trans ((below_drewN (WB.alloc (.cells #[.int .i64 q7] 3)) nd1).mono hb0.size)
      have BC := Lib.hid (BB.out.trans (hb7.mono BB.out.size))
      have KC := Lib.hid (KB.out.below hb7)
      have HOC := Lib.hid (HO.out.below hb7)
      have HXC := Lib.hid (HXG.out.2.elim fun cur hx => (⟨cur, hx.below hb7⟩ : ∃ cur, Blk ((WB.alloc (.cells #[.int .i64 q7] 3)).drewN nd1) xg 80 cur))
      clear I0 hb0 hb7 BB KB HO
      generalize (WB.alloc (.cells #[.int .i64 q7] 3)).drewN nd1 = WC at *
      have hy1m : y1 < m := by omega
      clear hq6 hq7
      go_upto_region 11 with fail
      have hon : ((⟨xg, 0, none⟩ : Addr).add (y1 * 6)) = ⟨xg, y1 * 6, none⟩ := by
        unfold Addr.add
        split
        · rename_i h0
          rw [h0]
        · simp
      try rw [hon]

      refine wp_region_held_drew (S := (fun _ => True)) (by kernel_rfl) trivial (fun _ => ?_)
      change wpAnyH _ _ _ _ _ 17 #[false, false, false, false, false, false, false, false, false, false, false, false, false, false, false, false, false] _ (World.drew _)
      have BD := Lib.hid (BC.out.trans ((below_drew (Below.refl WC.heap.size WC)).mono BC.out.size))
      have KD := Lib.hid (KC.out.below (below_drew (Below.refl _ _)))
      have HOD := Lib.hid (HOC.out.below (below_drew (Below.refl _ _)))
      have HXD := Lib.hid (HXC.out.elim fun cur hx => (⟨cur, hx.below (below_drew (Below.refl _ _))⟩ : ∃ cur, Blk WC.drew xg 80 cur))
      clear BC KC HOC HXC
      generalize WC.drew = WD at *
      refine wpAnyH_take (i := 0) (v := .pointer (some ⟨xg, y1 * 6, none⟩)) rfl (by kernel_rfl) (by kernel_rfl) (by kernel_rfl) (fun _ _ _ h => h) (Or.inl ⟨by rfl, fun u hu => by (go_simp)⟩) trivial ?_
      simp only [List.getElem_toArray, List.getElem_cons_succ, List.getElem_cons_zero, Act.put, List.setIfInBounds_toArray, List.set_cons_zero, List.set_cons_succ]
      refine wpAnyH_take (i := 1) (v := .pointer (some ⟨xg, y1 * 6, none⟩)) rfl (by kernel_rfl) (by kernel_rfl) (by kernel_rfl) (fun _ _ _ h => h) (Or.inl ⟨by rfl, fun u hu => by (go_simp)⟩) trivial ?_
      simp only [List.getElem_toArray, List.getElem_cons_succ, List.getElem_cons_zero, Act.put, List.setIfInBounds_toArray, List.set_cons_zero, List.set_cons_succ]
      refine wpAnyH_take (i := 2) (v := .pointer (some ⟨xg, y1 * 6 + 0, none⟩)) rfl (by kernel_rfl) (by kernel_rfl) (by kernel_rfl) (fun _ _ _ h => h) (Or.inl ⟨by rfl, fun u hu => by (go_simp)⟩) trivial ?_
      simp only [List.getElem_toArray, List.getElem_cons_succ, List.getElem_cons_zero, Act.put, List.setIfInBounds_toArray, List.set_cons_zero, List.set_cons_succ]
      refine wpAnyH_take (i := 3) (v := .pointer (some ⟨xg, y1 * 6, none⟩)) rfl (by kernel_rfl) (by kernel_rfl) (by kernel_rfl) (fun _ _ _ h => h) (Or.inl ⟨by rfl, fun u hu => by (go_simp)⟩) trivial ?_
      simp only [List.getElem_toArray, List.getElem_cons_succ, List.getElem_cons_zero, Act.put, List.setIfInBounds_toArray, List.set_cons_zero, List.set_cons_succ]
      refine wpAnyH_take (i := 4) (v := .pointer (some ⟨xg, y1 * 6, none⟩)) rfl (by kernel_rfl) (by kernel_rfl) (by kernel_rfl) (fun _ _ _ h => h) (Or.inl ⟨by rfl, fun u hu => by (go_simp)⟩) trivial ?_
      simp only [List.getElem_toArray, List.getElem_cons_succ, List.getElem_cons_zero, Act.put, List.setIfInBounds_toArray, List.set_cons_zero, List.set_cons_succ]
      refine wpAnyH_take (i := 5) (v := .pointer (some ⟨xg, y1 * 6 + 2, none⟩)) rfl (by kernel_rfl) (by kernel_rfl) (by kernel_rfl) (fun _ _ _ h => h) (Or.inl ⟨by rfl, fun u hu => by (go_simp)⟩) trivial ?_
      simp only [List.getElem_toArray, List.getElem_cons_succ, List.getElem_cons_zero, Act.put, List.setIfInBounds_toArray, List.set_cons_zero, List.set_cons_succ]
      refine wpAnyH_take (i := 6) (v := .pointer (some ⟨xg, y1 * 6, none⟩)) rfl (by kernel_rfl) (by kernel_rfl) (by kernel_rfl) (fun _ _ _ h => h) (Or.inl ⟨by rfl, fun u hu => by (go_simp)⟩) trivial ?_
      simp only [List.getElem_toArray, List.getElem_cons_succ, List.getElem_cons_zero, Act.put, List.setIfInBounds_toArray, List.set_cons_zero, List.set_cons_succ]
      refine wpAnyH_take (i := 7) (v := .pointer (some ⟨xg, y1 * 6, none⟩)) rfl (by kernel_rfl) (by kernel_rfl) (by kernel_rfl) (fun _ _ _ h => h) (Or.inl ⟨by rfl, fun u hu => by (go_simp)⟩) trivial ?_
      simp only [List.getElem_toArray, List.getElem_cons_succ, List.getElem_cons_zero, Act.put, List.setIfInBounds_toArray, List.set_cons_zero, List.set_cons_succ]
      refine wpAnyH_take (i := 8) (v := .pointer (some ⟨xg, y1 * 6 + 3, none⟩)) rfl (by kernel_rfl) (by kernel_rfl) (by kernel_rfl) (fun _ _ _ h => h) (Or.inl ⟨by rfl, fun u hu => by (go_simp)⟩) trivial ?_
      simp only [List.getElem_toArray, List.getElem_cons_succ, List.getElem_cons_zero, Act.put, List.setIfInBounds_toArray, List.set_cons_zero, List.set_cons_succ]
      refine wpAnyH_take (i := 9) (v := .pointer (some ⟨xg, y1 * 6, none⟩)) rfl (by kernel_rfl) (by kernel_rfl) (by kernel_rfl) (fun _ _ _ h => h) (Or.inl ⟨by rfl, fun u hu => by (go_simp)⟩) trivial ?_
      simp only [List.getElem_toArray, List.getElem_cons_succ, List.getElem_cons_zero, Act.put, List.setIfInBounds_toArray, List.set_cons_zero, List.set_cons_succ]
      refine wpAnyH_take (i := 10) (v := .pointer (some ⟨xg, y1 * 6, none⟩)) rfl (by kernel_rfl) (by kernel_rfl) (by kernel_rfl) (fun _ _ _ h => h) (Or.inl ⟨by rfl, fun u hu => by (go_simp)⟩) trivial ?_
      simp only [List.getElem_toArray, List.getElem_cons_succ, List.getElem_cons_zero, Act.put, List.setIfInBounds_toArray, List.set_cons_zero, List.set_cons_succ]
      refine wpAnyH_take (i := 11) (v := .pointer (some ⟨xg, y1 * 6 + 4, none⟩)) rfl (by kernel_rfl) (by kernel_rfl) (by kernel_rfl) (fun _ _ _ h => h) (Or.inl ⟨by rfl, fun u hu => by (go_simp)⟩) trivial ?_
      simp only [List.getElem_toArray, List.getElem_cons_succ, List.getElem_cons_zero, Act.put, List.setIfInBounds_toArray, List.set_cons_zero, List.set_cons_succ]
      refine wpAnyH_take (i := 12) (v := .pointer (some ⟨xg, y1 * 6, none⟩)) rfl (by kernel_rfl) (by kernel_rfl) (by kernel_rfl) (fun _ _ _ h => h) (Or.inl ⟨by rfl, fun u hu => by (go_simp)⟩) trivial ?_
      simp only [List.getElem_toArray, List.getElem_cons_succ, List.getElem_cons_zero, Act.put, List.setIfInBounds_toArray, List.set_cons_zero, List.set_cons_succ]
      refine wpAnyH_take (i := 13) (v := .pointer (some ⟨xg, y1 * 6, none⟩)) rfl (by kernel_rfl) (by kernel_rfl) (by kernel_rfl) (fun _ _ _ h => h) (Or.inl ⟨by rfl, fun u hu => by (go_simp)⟩) trivial ?_
      simp only [List.getElem_toArray, List.getElem_cons_succ, List.getElem_cons_zero, Act.put, List.setIfInBounds_toArray, List.set_cons_zero, List.set_cons_succ]
      refine wpAnyH_take (i := 14) (v := .pointer (some ⟨xg, y1 * 6 + 5, none⟩)) rfl (by kernel_rfl) (by kernel_rfl) (by kernel_rfl) (fun _ _ _ h => h) (Or.inl ⟨by rfl, fun u hu => by (go_simp)⟩) trivial ?_
      simp only [List.getElem_toArray, List.getElem_cons_succ, List.getElem_cons_zero, Act.put, List.setIfInBounds_toArray, List.set_cons_zero, List.set_cons_succ]
      refine wpAnyH_ready (rs := [15]) (by kernel_rfl) (by simp) ?_
      refine AllReadyH.cons rfl (fun KK hK => ?_) AllReadyH.nil
      go_simp
      have BE := Lib.hid (BD.out.trans ((below_one WD (.cells (mcA xg (y1 * 6) cb) 81)).mono BD.out.size))
      have KE := Lib.hid (KD.out.alloc (.cells (mcA xg (y1 * 6) cb) 81))
      have HOE := Lib.hid (HOD.out.below (below_one WD (.cells (mcA xg (y1 * 6) cb) 81)))
      have HXE := Lib.hid (HXD.out.elim fun cur hx => (⟨cur, hx.alloc _⟩ : ∃ cur, Blk (WD.alloc (.cells (mcA xg (y1 * 6) cb) 81)) xg 80 cur))
      have HME := Lib.hid (Blk.made WD 81 (mcA xg (y1 * 6) cb))
      clear BD KD HOD HXD
      refine hK.out _ _ trivial (fun _ => ?_)
      clear hK KK
      simp only [List.setIfInBounds_toArray, List.set_cons_zero, List.set_cons_succ]
      generalize WD.alloc (.cells (mcA xg (y1 * 6) cb) 81) = WE at *
      generalize WD.heap.size = mb at *
      refine wpAnyH_take (i := 16) (v := .slice (some ⟨mb, 0, none⟩) 6 6) rfl (by kernel_rfl) (by kernel_rfl) (by kernel_rfl) (fun _ _ _ h => h) (Or.inl ⟨by rfl, fun u hu => by (go_simp)⟩) trivial ?_
      simp only [List.getElem_toArray, List.getElem_cons_succ, List.getElem_cons_zero, Act.put, List.setIfInBounds_toArray, List.set_cons_zero, List.set_cons_succ]
      refine wpAnyH_done (by kernel_rfl) ?_ _
      obtain ⟨tp, htp⟩ : ∃ tp, tp = tpA xg (y1 * 6) cb := ⟨_, rfl⟩
      obtain ⟨tv, htv⟩ : ∃ tv, tv = tvA (r.getD y1 .zero) (C : Int) := ⟨_, rfl⟩
      obtain ⟨Q, hQ⟩ : ∃ Q : World → Prop, Q = fun u => (Below w.heap.size w u ∧ Blk u cb 3 #[.int .i64 (C : Int)] ∧ OwnG u w.heap.size 80 6 (.slice (some ⟨xg, 0, none⟩) m xc) (r.map opL) ∧ (∃ cur, Blk u xg 80 cur) ∧ Blk u mb 81 (mcA xg (y1 * 6) cb)) := ⟨_, rfl⟩
      have HQE := Lib.hid (show Q WE from by rw [hQ]; exact ⟨BE.out, KE.out, HOE.out, HXE.out, HME.out⟩)
      have HQB := Lib.hid (show ∀ u u', Below u.heap.size u u' → Q u → Q u' from by
        rw [hQ]
        rintro u u' hb ⟨h1, h2, h3, ⟨cur, h4⟩, h5⟩
        exact ⟨h1.trans (hb.mono h1.size), h2.below hb, h3.below hb, ⟨cur, h4.below hb⟩, h5.below hb⟩)
      have HQS := Lib.hid (show ∀ u, Q u → ∀ j, j < 6 → u.cell? ⟨mb, j, none⟩ = some (.pointer (some (tp j))) ∧ u.cell? (tp j) = some (.int .i64 (tv j)) from by
        rw [hQ, htp, htv]
        rintro u ⟨h1, h2, h3, h4, h5⟩
        exact chg_cells h3 HM.out.1 hy1m h2 h5)
      have HQF := Lib.hid (show ∀ u j, Q u → j < 6 → u.frozen? (tp j) = false from by
        rw [hQ, htp]
        rintro u j ⟨h1, h2, h3, ⟨cur, h4⟩, h5⟩ hj
        unfold tpA
        split
        · exact h2.free 0
        · exact h4.free _)
      have HQM := Lib.hid (show ∀ u j, Q u → j < 6 → mb ≠ (tp j).block from by
        rw [hQ, htp]
        rintro u j ⟨h1, h2, h3, ⟨cur, h4⟩, h5⟩ hj
        unfold tpA
        split
        · exact h5.apart h2 (by decide)
        · exact h5.apart h4 (by decide))
      have HQZ := Lib.hid (show ∀ u j x, Q u → j < 6 → (-9223372036854775808 ≤ x ∧ x ≤ 9223372036854775807) → ∃ (r' : List OpR) (C' : Int), Blk (u.setCell (tp j) (.int .i64 x)) cb 3 #[.int .i64 C'] ∧ OwnG (u.setCell (tp j) (.int .i64 x)) w.heap.size 80 6 (.slice (some ⟨xg, 0, none⟩) m xc) (r'.map opL) ∧ r'.length = m ∧ OpsI r' ∧ Below w.heap.size w (u.setCell (tp j) (.int .i64 x)) from by
        rw [hQ, htp]
        rintro u j x ⟨h1, h2, h3, h4, h5⟩ hj hx
        exact chg_end h3 HM.out.1 hy1m h2 h4 (fit_lin GG.out.fit) hj hx h1 (Nat.le_of_eq HCB.out.1) HXG.out.1)
      clear hQ htp htv BE KE HOE HXE HME
      go_upto_region 12 with fail
      refine wp_region_held_drew (S := (fun u => ∀ j, j < 6 → u.cell? ⟨mb, j, none⟩ = some (.pointer (some (tp j))))) (by kernel_rfl) (fun j hj => (HQS.out _ (HQB.out _ _ (below_drew (Below.refl _ _)) HQE.out) j hj).1) (fun _ => ?_)
      change wpAnyH _ _ _ _ _ 15 #[false, false, false, false, false, false, false, false, false, false, false, false, false, false, false] _ (World.drew _)
      have HQ0 := Lib.hid (HQB.out _ _ (below_drew (Below.refl WE.heap.size WE)) HQE.out)
      clear HQE
      generalize WE.drew = V0 at *
      refine wpAnyH_take (i := 0) (v := .slice (some ⟨mb, 0, none⟩) 6 6) rfl (by kernel_rfl) (by kernel_rfl) (by kernel_rfl) (fun _ _ _ h => h) (Or.inl ⟨by rfl, fun u hu => by (go_simp)⟩) (fun j hj => (HQS.out _ HQ0.out j hj).1) ?_
      simp only [List.getElem_toArray, List.getElem_cons_succ, List.getElem_cons_zero, Act.put, List.setIfInBounds_toArray, List.set_cons_zero, List.set_cons_succ]
      refine wpAnyH_take (i := 1) (v := .int .i64 wh) rfl (by kernel_rfl) (by kernel_rfl) (by kernel_rfl) (fun _ _ _ h => h) (Or.inl ⟨by rfl, fun u hu => by (go_simp)⟩) (fun j hj => (HQS.out _ HQ0.out j hj).1) ?_
      simp only [List.getElem_toArray, List.getElem_cons_succ, List.getElem_cons_zero, Act.put, List.setIfInBounds_toArray, List.set_cons_zero, List.set_cons_succ]
      refine wpAnyH_take (i := 8) (v := .int .i64 bq) rfl (by kernel_rfl) (by kernel_rfl) (by kernel_rfl) (fun _ _ _ h => h) (Or.inl ⟨by rfl, fun u hu => by (go_simp)⟩) (fun j hj => (HQS.out _ HQ0.out j hj).1) ?_
      simp only [List.getElem_toArray, List.getElem_cons_succ, List.getElem_cons_zero, Act.put, List.setIfInBounds_toArray, List.set_cons_zero, List.set_cons_succ]
      refine wpAnyH_ready (rs := [2, 9]) (by kernel_rfl) (by simp) ?_
      refine AllReadyH.cons rfl (fun KK hK => ?_) (AllReadyH.cons rfl (fun KK hK => ?_) (AllReadyH.nil))
      · go_simp
        have HQ1 := Lib.hid (HQB.out _ _ (below_one V0 (.cells #[.int .i64 wh] 3)) HQ0.out)
        have I2 := Lib.hid (ints_lone V0 wh)
        refine hK.out _ _ (fun j hj => (HQS.out _ HQ1.out j hj).1) (fun _ => ?_)
        clear hK KK
        simp only [List.setIfInBounds_toArray, List.set_cons_zero, List.set_cons_succ]
        generalize V0.alloc (.cells #[.int .i64 wh] 3) = V1 at *
        generalize V0.heap.size = b2 at *
        refine wpAnyH_ready (rs := [3, 9]) (by kernel_rfl) (by simp) ?_
        refine AllReadyH.cons rfl (fun KK hK => ?_) (AllReadyH.cons rfl (fun KK hK => ?_) (AllReadyH.nil))
        · go_simp
          go_at_call 25
          (with_reducible refine (keepnum0 I2.out 1 6 (by omega) (by omega)).mono ?_)
          rintro e u0 ⟨y2, hy2, rfl, n3, rfl⟩
          have HQ2 := Lib.hid (HQB.out _ _ (below_drewN V1 n3) HQ1.out)
          refine hK.out _ _ (fun j hj => (HQS.out _ HQ2.out j hj).1) (fun _ => ?_)
          clear hK KK
          simp only [List.setIfInBounds_toArray, List.set_cons_zero, List.set_cons_succ]
          generalize V1.drewN n3 = V2 at *
          have hy26 : y2 < 6 := (by omega)
          have hyl : (y2 : Int) < 6 := (by omega)
          refine wpAnyH_take (i := 4) (v := .pointer (some ⟨mb, y2, none⟩)) rfl (by kernel_rfl) (by kernel_rfl) (by kernel_rfl) (fun _ _ _ h => h) (Or.inl ⟨by rfl, fun u hu => by (go_simp)⟩) (fun j hj => (HQS.out _ HQ2.out j hj).1) ?_
          simp only [List.getElem_toArray, List.getElem_cons_succ, List.getElem_cons_zero, Act.put, List.setIfInBounds_toArray, List.set_cons_zero, List.set_cons_succ]
          refine wpAnyH_take (i := 5) (v := .pointer (some (tp y2))) rfl (by kernel_rfl) (by kernel_rfl) (by kernel_rfl) (fun _ _ _ h => h) (Or.inl ⟨by rfl, fun u hu => by (have c1 := hu y2 hy26; go_simp)⟩) (fun j hj => (HQS.out _ HQ2.out j hj).1) ?_
          simp only [List.getElem_toArray, List.getElem_cons_succ, List.getElem_cons_zero, Act.put, List.setIfInBounds_toArray, List.set_cons_zero, List.set_cons_succ]
          refine wpAnyH_take (i := 6) (v := .pointer (some (tp y2))) rfl (by kernel_rfl) (by kernel_rfl) (by kernel_rfl) (fun _ _ _ h => h) (Or.inl ⟨by rfl, fun u hu => by (go_simp)⟩) (fun j hj => (HQS.out _ HQ2.out j hj).1) ?_
          simp only [List.getElem_toArray, List.getElem_cons_succ, List.getElem_cons_zero, Act.put, List.setIfInBounds_toArray, List.set_cons_zero, List.set_cons_succ]
          refine wpAnyH_ready (rs := [7, 9]) (by kernel_rfl) (by simp) ?_
          refine AllReadyH.cons rfl (fun KK hK => ?_) (AllReadyH.cons rfl (fun KK hK => ?_) (AllReadyH.nil))
          · have c9 := (HQS.out _ HQ2.out y2 hy26).2
            go_simp
            have HQ3 := Lib.hid HQ2.out
            refine hK.out _ _ (fun j hj => (HQS.out _ HQ3.out j hj).1) (fun _ => ?_)
            clear hK KK c9
            simp only [List.setIfInBounds_toArray, List.set_cons_zero, List.set_cons_succ]
            refine wpAnyH_ready (rs := [9]) (by kernel_rfl) (by simp) ?_
            refine AllReadyH.cons rfl (fun KK hK => ?_) (AllReadyH.nil)
            go_simp
            have HQ4 := Lib.hid (HQB.out _ _ (below_one V2 (.cells #[.int .i64 bq] 3)) HQ3.out)
            have I9 := Lib.hid (ints_lone V2 bq)
            refine hK.out _ _ (fun j hj => (HQS.out _ HQ4.out j hj).1) (fun _ => ?_)
            clear hK KK
            simp only [List.setIfInBounds_toArray, List.set_cons_zero, List.set_cons_succ]
            generalize V2.alloc (.cells #[.int .i64 bq] 3) = V4 at *
            generalize V2.heap.size = b9 at *
            refine wpAnyH_ready (rs := [10]) (by kernel_rfl) (by simp) ?_
            refine AllReadyH.cons rfl (fun KK hK => ?_) (AllReadyH.nil)
            go_simp
            go_at_call 25
            (with_reducible refine (keepnum0 I9.out 1 9 (by omega) (by omega)).mono ?_)
            rintro e u0 ⟨y3, hy3, rfl, n10, rfl⟩
            have HQ5 := Lib.hid (HQB.out _ _ (below_drewN V4 n10) HQ4.out)
            refine hK.out _ _ (fun j hj => (HQS.out _ HQ5.out j hj).1) (fun _ => ?_)
            clear hK KK
            simp only [List.setIfInBounds_toArray, List.set_cons_zero, List.set_cons_succ]
            generalize V4.drewN n10 = V5 at *
            refine wpAnyH_take (i := 11) (v := .int .i64 (IntKind.i64.wrap ((y3 : Int) - 4))) rfl (by kernel_rfl) (by kernel_rfl) (by kernel_rfl) (fun _ _ _ h => h) (Or.inl ⟨by rfl, fun u hu => by (go_simp)⟩) (fun j hj => (HQS.out _ HQ5.out j hj).1) ?_
            simp only [List.getElem_toArray, List.getElem_cons_succ, List.getElem_cons_zero, Act.put, List.setIfInBounds_toArray, List.set_cons_zero, List.set_cons_succ]
            obtain ⟨xx, hxx⟩ : ∃ xx, IntKind.i64.wrap (tv y2 + IntKind.i64.wrap ((y3 : Int) - 4)) = xx := ⟨_, rfl⟩
            have HXX := Lib.hid hxx
            refine wpAnyH_take (i := 12) (v := .int .i64 xx) rfl (by kernel_rfl) (by kernel_rfl) (by kernel_rfl) (fun _ _ _ h => h) (Or.inl ⟨by rfl, fun u hu => by (have hq := HXX.out; go_simp)⟩) (fun j hj => (HQS.out _ HQ5.out j hj).1) ?_
            simp only [List.getElem_toArray, List.getElem_cons_succ, List.getElem_cons_zero, Act.put, List.setIfInBounds_toArray, List.set_cons_zero, List.set_cons_succ]
            clear hxx
            refine wpAnyH_take (i := 13) (v := .pointer (some (tp y2))) rfl (by kernel_rfl) (by kernel_rfl) (by kernel_rfl) (fun _ _ _ h => h) (Or.inl ⟨by rfl, fun u hu => by (go_simp)⟩) (fun j hj => (HQS.out _ HQ5.out j hj).1) ?_
            simp only [List.getElem_toArray, List.getElem_cons_succ, List.getElem_cons_zero, Act.put, List.setIfInBounds_toArray, List.set_cons_zero, List.set_cons_succ]
            refine wpAnyH_ready (rs := [14]) (by kernel_rfl) (by simp) ?_
            refine AllReadyH.cons rfl (fun KK hK => ?_) (AllReadyH.nil)
            have c9 := (HQS.out _ HQ5.out y2 hy26).2
            have f9 := HQF.out _ y2 HQ5.out hy26
            have HX9 := Lib.hid (show -9223372036854775808 ≤ xx ∧ xx ≤ 9223372036854775807 from by rw [← HXX.out, IntKind.wrap_i64]; omega)
            go_simp
            have HZ9 := Lib.hid (HQZ.out _ y2 xx HQ5.out hy26 HX9.out)
            refine hK.out _ (V5.setCell (tp y2) (.int .i64 xx)) (fun j hj => (World.cell?_of_block (Below.heap_setCell V5 (tp y2) (.int .i64 xx) mb (HQM.out _ y2 HQ5.out hy26))).trans (HQS.out _ HQ5.out j hj).1) (fun _ => ?_)
            clear hK KK c9 f9
            simp only [List.setIfInBounds_toArray, List.set_cons_zero, List.set_cons_succ]
            refine wpAnyH_done (by kernel_rfl) ?_ _
            go_wp2_with fail
            go_meet
            case rel => exact HZ9.out
          · go_simp
            have HQ3 := Lib.hid (HQB.out _ _ (below_one V2 (.cells #[.int .i64 bq] 3)) HQ2.out)
            have I9 := Lib.hid (ints_lone V2 bq)
            refine hK.out _ _ (fun j hj => (HQS.out _ HQ3.out j hj).1) (fun _ => ?_)
            clear hK KK
            simp only [List.setIfInBounds_toArray, List.set_cons_zero, List.set_cons_succ]
            generalize V2.alloc (.cells #[.int .i64 bq] 3) = V3 at *
            generalize V2.heap.size = b9 at *
            refine wpAnyH_ready (rs := [7, 10]) (by kernel_rfl) (by simp) ?_
            refine AllReadyH.cons rfl (fun KK hK => ?_) (AllReadyH.cons rfl (fun KK hK => ?_) (AllReadyH.nil))
            · have c9 := (HQS.out _ HQ3.out y2 hy26).2
              go_simp
              have HQ4 := Lib.hid HQ3.out
              refine hK.out _ _ (fun j hj => (HQS.out _ HQ4.out j hj).1) (fun _ => ?_)
              clear hK KK c9
              simp only [List.setIfInBounds_toArray, List.set_cons_zero, List.set_cons_succ]
              refine wpAnyH_ready (rs := [10]) (by kernel_rfl) (by simp) ?_
              refine AllReadyH.cons rfl (fun KK hK => ?_) (AllReadyH.nil)
              go_simp
              go_at_call 25
              (with_reducible refine (keepnum0 I9.out 1 9 (by omega) (by omega)).mono ?_)
              rintro e u0 ⟨y3, hy3, rfl, n10, rfl⟩
              have HQ5 := Lib.hid (HQB.out _ _ (below_drewN V3 n10) HQ4.out)
              refine hK.out _ _ (fun j hj => (HQS.out _ HQ5.out j hj).1) (fun _ => ?_)
              clear hK KK
              simp only [List.setIfInBounds_toArray, List.set_cons_zero, List.set_cons_succ]
              generalize V3.drewN n10 = V5 at *
              refine wpAnyH_take (i := 11) (v := .int .i64 (IntKind.i64.wrap ((y3 : Int) - 4))) rfl (by kernel_rfl) (by kernel_rfl) (by kernel_rfl) (fun _ _ _ h => h) (Or.inl ⟨by rfl, fun u hu => by (go_simp)⟩) (fun j hj => (HQS.out _ HQ5.out j hj).1) ?_
              simp only [List.getElem_toArray, List.getElem_cons_succ, List.getElem_cons_zero, Act.put, List.setIfInBounds_toArray, List.set_cons_zero, List.set_cons_succ]
              obtain ⟨xx, hxx⟩ : ∃ xx, IntKind.i64.wrap (tv y2 + IntKind.i64.wrap ((y3 : Int) - 4)) = xx := ⟨_, rfl⟩
              have HXX := Lib.hid hxx
              refine wpAnyH_take (i := 12) (v := .int .i64 xx) rfl (by kernel_rfl) (by kernel_rfl) (by kernel_rfl) (fun _ _ _ h => h) (Or.inl ⟨by rfl, fun u hu => by (have hq := HXX.out; go_simp)⟩) (fun j hj => (HQS.out _ HQ5.out j hj).1) ?_
              simp only [List.getElem_toArray, List.getElem_cons_succ, List.getElem_cons_zero, Act.put, List.setIfInBounds_toArray, List.set_cons_zero, List.set_cons_succ]
              clear hxx
              refine wpAnyH_take (i := 13) (v := .pointer (some (tp y2))) rfl (by kernel_rfl) (by kernel_rfl) (by kernel_rfl) (fun _ _ _ h => h) (Or.inl ⟨by rfl, fun u hu => by (go_simp)⟩) (fun j hj => (HQS.out _ HQ5.out j hj).1) ?_
              simp only [List.getElem_toArray, List.getElem_cons_succ, List.getElem_cons_zero, Act.put, List.setIfInBounds_toArray, List.set_cons_zero, List.set_cons_succ]
              refine wpAnyH_ready (rs := [14]) (by kernel_rfl) (by simp) ?_
              refine AllReadyH.cons rfl (fun KK hK => ?_) (AllReadyH.nil)
              have c9 := (HQS.out _ HQ5.out y2 hy26).2
              have f9 := HQF.out _ y2 HQ5.out hy26
              have HX9 := Lib.hid (show -9223372036854775808 ≤ xx ∧ xx ≤ 9223372036854775807 from by rw [← HXX.out, IntKind.wrap_i64]; omega)
              go_simp
              have HZ9 := Lib.hid (HQZ.out _ y2 xx HQ5.out hy26 HX9.out)
              refine hK.out _ (V5.setCell (tp y2) (.int .i64 xx)) (fun j hj => (World.cell?_of_block (Below.heap_setCell V5 (tp y2) (.int .i64 xx) mb (HQM.out _ y2 HQ5.out hy26))).trans (HQS.out _ HQ5.out j hj).1) (fun _ => ?_)
              clear hK KK c9 f9
              simp only [List.setIfInBounds_toArray, List.set_cons_zero, List.set_cons_succ]
              refine wpAnyH_done (by kernel_rfl) ?_ _
              go_wp2_with fail
              go_meet
              case rel => exact HZ9.out
            · go_simp
              go_at_call 25
              (with_reducible refine (keepnum0 I9.out 1 9 (by omega) (by omega)).mono ?_)
              rintro e u0 ⟨y3, hy3, rfl, n10, rfl⟩
              have HQ4 := Lib.hid (HQB.out _ _ (below_drewN V3 n10) HQ3.out)
              refine hK.out _ _ (fun j hj => (HQS.out _ HQ4.out j hj).1) (fun _ => ?_)
              clear hK KK
              simp only [List.setIfInBounds_toArray, List.set_cons_zero, List.set_cons_succ]
              generalize V3.drewN n10 = V4 at *
              refine wpAnyH_take (i := 11) (v := .int .i64 (IntKind.i64.wrap ((y3 : Int) - 4))) rfl (by kernel_rfl) (by kernel_rfl) (by kernel_rfl) (fun _ _ _ h => h) (Or.inl ⟨by rfl, fun u hu => by (go_simp)⟩) (fun j hj => (HQS.out _ HQ4.out j hj).1) ?_
              simp only [List.getElem_toArray, List.getElem_cons_succ, List.getElem_cons_zero, Act.put, List.setIfInBounds_toArray, List.set_cons_zero, List.set_cons_succ]
              refine wpAnyH_ready (rs := [7]) (by kernel_rfl) (by simp) ?_
              refine AllReadyH.cons rfl (fun KK hK => ?_) (AllReadyH.nil)
              have c9 := (HQS.out _ HQ4.out y2 hy26).2
              go_simp
              have HQ5 := Lib.hid HQ4.out
              refine hK.out _ _ (fun j hj => (HQS.out _ HQ5.out j hj).1) (fun _ => ?_)
              clear hK KK c9
              simp only [List.setIfInBounds_toArray, List.set_cons_zero, List.set_cons_succ]
              obtain ⟨xx, hxx⟩ : ∃ xx, IntKind.i64.wrap (tv y2 + IntKind.i64.wrap ((y3 : Int) - 4)) = xx := ⟨_, rfl⟩
              have HXX := Lib.hid hxx
              refine wpAnyH_take (i := 12) (v := .int .i64 xx) rfl (by kernel_rfl) (by kernel_rfl) (by kernel_rfl) (fun _ _ _ h => h) (Or.inl ⟨by rfl, fun u hu => by (have hq := HXX.out; go_simp)⟩) (fun j hj => (HQS.out _ HQ5.out j hj).1) ?_
              simp only [List.getElem_toArray, List.getElem_cons_succ, List.getElem_cons_zero, Act.put, List.setIfInBounds_toArray, List.set_cons_zero, List.set_cons_succ]
              clear hxx
              refine wpAnyH_take (i := 13) (v := .pointer (some (tp y2))) rfl (by kernel_rfl) (by kernel_rfl) (by kernel_rfl) (fun _ _ _ h => h) (Or.inl ⟨by rfl, fun u hu => by (go_simp)⟩) (fun j hj => (HQS.out _ HQ5.out j hj).1) ?_
              simp only [List.getElem_toArray, List.getElem_cons_succ, List.getElem_cons_zero, Act.put, List.setIfInBounds_toArray, List.set_cons_zero, List.set_cons_succ]
              refine wpAnyH_ready (rs := [14]) (by kernel_rfl) (by simp) ?_
              refine AllReadyH.cons rfl (fun KK hK => ?_) (AllReadyH.nil)
              have c9 := (HQS.out _ HQ5.out y2 hy26).2
              have f9 := HQF.out _ y2 HQ5.out hy26
              have HX9 := Lib.hid (show -9223372036854775808 ≤ xx ∧ xx ≤ 9223372036854775807 from by rw [← HXX.out, IntKind.wrap_i64]; omega)
              go_simp
              have HZ9 := Lib.hid (HQZ.out _ y2 xx HQ5.out hy26 HX9.out)
              refine hK.out _ (V4.setCell (tp y2) (.int .i64 xx)) (fun j hj => (World.cell?_of_block (Below.heap_setCell V4 (tp y2) (.int .i64 xx) mb (HQM.out _ y2 HQ5.out hy26))).trans (HQS.out _ HQ5.out j hj).1) (fun _ => ?_)
              clear hK KK c9 f9
              simp only [List.setIfInBounds_toArray, List.set_cons_zero, List.set_cons_succ]
              refine wpAnyH_done (by kernel_rfl) ?_ _
              go_wp2_with fail
              go_meet
              case rel => exact HZ9.out
        · go_simp
          have HQ2 := Lib.hid (HQB.out _ _ (below_one V1 (.cells #[.int .i64 bq] 3)) HQ1.out)
          have I9 := Lib.hid (ints_lone V1 bq)
          have I2x := Lib.hid (I2.out.below (below_one V1 (.cells #[.int .i64 bq] 3)))
          refine hK.out _ _ (fun j hj => (HQS.out _ HQ2.out j hj).1) (fun _ => ?_)
          clear hK KK
          simp only [List.setIfInBounds_toArray, List.set_cons_zero, List.set_cons_succ]
          generalize V1.alloc (.cells #[.int .i64 bq] 3) = V2 at *
          generalize V1.heap.size = b9 at *
          refine wpAnyH_ready (rs := [3]) (by kernel_rfl) (by simp) ?_
          refine AllReadyH.cons rfl (fun KK hK => ?_) (AllReadyH.nil)
          go_simp
          go_at_call 25
          (with_reducible refine (keepnum0 I2x.out 1 6 (by omega) (by omega)).mono ?_)
          rintro e u0 ⟨y2, hy2, rfl, n3, rfl⟩
          have HQ3 := Lib.hid (HQB.out _ _ (below_drewN V2 n3) HQ2.out)
          have I9y := Lib.hid (I9.out.below (below_drewN V2 n3))
          refine hK.out _ _ (fun j hj => (HQS.out _ HQ3.out j hj).1) (fun _ => ?_)
          clear hK KK
          simp only [List.setIfInBounds_toArray, List.set_cons_zero, List.set_cons_succ]
          generalize V2.drewN n3 = V3 at *
          have hy26 : y2 < 6 := (by omega)
          have hyl : (y2 : Int) < 6 := (by omega)
          refine wpAnyH_take (i := 4) (v := .pointer (some ⟨mb, y2, none⟩)) rfl (by kernel_rfl) (by kernel_rfl) (by kernel_rfl) (fun _ _ _ h => h) (Or.inl ⟨by rfl, fun u hu => by (go_simp)⟩) (fun j hj => (HQS.out _ HQ3.out j hj).1) ?_
          simp only [List.getElem_toArray, List.getElem_cons_succ, List.getElem_cons_zero, Act.put, List.setIfInBounds_toArray, List.set_cons_zero, List.set_cons_succ]
          refine wpAnyH_take (i := 5) (v := .pointer (some (tp y2))) rfl (by kernel_rfl) (by kernel_rfl) (by kernel_rfl) (fun _ _ _ h => h) (Or.inl ⟨by rfl, fun u hu => by (have c1 := hu y2 hy26; go_simp)⟩) (fun j hj => (HQS.out _ HQ3.out j hj).1) ?_
          simp only [List.getElem_toArray, List.getElem_cons_succ, List.getElem_cons_zero, Act.put, List.setIfInBounds_toArray, List.set_cons_zero, List.set_cons_succ]
          refine wpAnyH_take (i := 6) (v := .pointer (some (tp y2))) rfl (by kernel_rfl) (by kernel_rfl) (by kernel_rfl) (fun _ _ _ h => h) (Or.inl ⟨by rfl, fun u hu => by (go_simp)⟩) (fun j hj => (HQS.out _ HQ3.out j hj).1) ?_
          simp only [List.getElem_toArray, List.getElem_cons_succ, List.getElem_cons_zero, Act.put, List.setIfInBounds_toArray, List.set_cons_zero, List.set_cons_succ]
          refine wpAnyH_ready (rs := [7, 10]) (by kernel_rfl) (by simp) ?_
          refine AllReadyH.cons rfl (fun KK hK => ?_) (AllReadyH.cons rfl (fun KK hK => ?_) (AllReadyH.nil))
          · have c9 := (HQS.out _ HQ3.out y2 hy26).2
            go_simp
            have HQ4 := Lib.hid HQ3.out
            refine hK.out _ _ (fun j hj => (HQS.out _ HQ4.out j hj).1) (fun _ => ?_)
            clear hK KK c9
            simp only [List.setIfInBounds_toArray, List.set_cons_zero, List.set_cons_succ]
            refine wpAnyH_ready (rs := [10]) (by kernel_rfl) (by simp) ?_
            refine AllReadyH.cons rfl (fun KK hK => ?_) (AllReadyH.nil)
            go_simp
            go_at_call 25
            (with_reducible refine (keepnum0 I9y.out 1 9 (by omega) (by omega)).mono ?_)
            rintro e u0 ⟨y3, hy3, rfl, n10, rfl⟩
            have HQ5 := Lib.hid (HQB.out _ _ (below_drewN V3 n10) HQ4.out)
            refine hK.out _ _ (fun j hj => (HQS.out _ HQ5.out j hj).1) (fun _ => ?_)
            clear hK KK
            simp only [List.setIfInBounds_toArray, List.set_cons_zero, List.set_cons_succ]
            generalize V3.drewN n10 = V5 at *
            refine wpAnyH_take (i := 11) (v := .int .i64 (IntKind.i64.wrap ((y3 : Int) - 4))) rfl (by kernel_rfl) (by kernel_rfl) (by kernel_rfl) (fun _ _ _ h => h) (Or.inl ⟨by rfl, fun u hu => by (go_simp)⟩) (fun j hj => (HQS.out _ HQ5.out j hj).1) ?_
            simp only [List.getElem_toArray, List.getElem_cons_succ, List.getElem_cons_zero, Act.put, List.setIfInBounds_toArray, List.set_cons_zero, List.set_cons_succ]
            obtain ⟨xx, hxx⟩ : ∃ xx, IntKind.i64.wrap (tv y2 + IntKind.i64.wrap ((y3 : Int) - 4)) = xx := ⟨_, rfl⟩
            have HXX := Lib.hid hxx
            refine wpAnyH_take (i := 12) (v := .int .i64 xx) rfl (by kernel_rfl) (by kernel_rfl) (by kernel_rfl) (fun _ _ _ h => h) (Or.inl ⟨by rfl, fun u hu => by (have hq := HXX.out; go_simp)⟩) (fun j hj => (HQS.out _ HQ5.out j hj).1) ?_
            simp only [List.getElem_toArray, List.getElem_cons_succ, List.getElem_cons_zero, Act.put, List.setIfInBounds_toArray, List.set_cons_zero, List.set_cons_succ]
            clear hxx
            refine wpAnyH_take (i := 13) (v := .pointer (some (tp y2))) rfl (by kernel_rfl) (by kernel_rfl) (by kernel_rfl) (fun _ _ _ h => h) (Or.inl ⟨by rfl, fun u hu => by (go_simp)⟩) (fun j hj => (HQS.out _ HQ5.out j hj).1) ?_
            simp only [List.getElem_toArray, List.getElem_cons_succ, List.getElem_cons_zero, Act.put, List.setIfInBounds_toArray, List.set_cons_zero, List.set_cons_succ]
            refine wpAnyH_ready (rs := [14]) (by kernel_rfl) (by simp) ?_
            refine AllReadyH.cons rfl (fun KK hK => ?_) (AllReadyH.nil)
            have c9 := (HQS.out _ HQ5.out y2 hy26).2
            have f9 := HQF.out _ y2 HQ5.out hy26
            have HX9 := Lib.hid (show -9223372036854775808 ≤ xx ∧ xx ≤ 9223372036854775807 from by rw [← HXX.out, IntKind.wrap_i64]; omega)
            go_simp
            have HZ9 := Lib.hid (HQZ.out _ y2 xx HQ5.out hy26 HX9.out)
            refine hK.out _ (V5.setCell (tp y2) (.int .i64 xx)) (fun j hj => (World.cell?_of_block (Below.heap_setCell V5 (tp y2) (.int .i64 xx) mb (HQM.out _ y2 HQ5.out hy26))).trans (HQS.out _ HQ5.out j hj).1) (fun _ => ?_)
            clear hK KK c9 f9
            simp only [List.setIfInBounds_toArray, List.set_cons_zero, List.set_cons_succ]
            refine wpAnyH_done (by kernel_rfl) ?_ _
            go_wp2_with fail
            go_meet
            case rel => exact HZ9.out
          · go_simp
            go_at_call 25
            (with_reducible refine (keepnum0 I9y.out 1 9 (by omega) (by omega)).mono ?_)
            rintro e u0 ⟨y3, hy3, rfl, n10, rfl⟩
            have HQ4 := Lib.hid (HQB.out _ _ (below_drewN V3 n10) HQ3.out)
            refine hK.out _ _ (fun j hj => (HQS.out _ HQ4.out j hj).1) (fun _ => ?_)
            clear hK KK
            simp only [List.setIfInBounds_toArray, List.set_cons_zero, List.set_cons_succ]
            generalize V3.drewN n10 = V4 at *
            refine wpAnyH_take (i := 11) (v := .int .i64 (IntKind.i64.wrap ((y3 : Int) - 4))) rfl (by kernel_rfl) (by kernel_rfl) (by kernel_rfl) (fun _ _ _ h => h) (Or.inl ⟨by rfl, fun u hu => by (go_simp)⟩) (fun j hj => (HQS.out _ HQ4.out j hj).1) ?_
            simp only [List.getElem_toArray, List.getElem_cons_succ, List.getElem_cons_zero, Act.put, List.setIfInBounds_toArray, List.set_cons_zero, List.set_cons_succ]
            refine wpAnyH_ready (rs := [7]) (by kernel_rfl) (by simp) ?_
            refine AllReadyH.cons rfl (fun KK hK => ?_) (AllReadyH.nil)
            have c9 := (HQS.out _ HQ4.out y2 hy26).2
            go_simp
            have HQ5 := Lib.hid HQ4.out
            refine hK.out _ _ (fun j hj => (HQS.out _ HQ5.out j hj).1) (fun _ => ?_)
            clear hK KK c9
            simp only [List.setIfInBounds_toArray, List.set_cons_zero, List.set_cons_succ]
            obtain ⟨xx, hxx⟩ : ∃ xx, IntKind.i64.wrap (tv y2 + IntKind.i64.wrap ((y3 : Int) - 4)) = xx := ⟨_, rfl⟩
            have HXX := Lib.hid hxx
            refine wpAnyH_take (i := 12) (v := .int .i64 xx) rfl (by kernel_rfl) (by kernel_rfl) (by kernel_rfl) (fun _ _ _ h => h) (Or.inl ⟨by rfl, fun u hu => by (have hq := HXX.out; go_simp)⟩) (fun j hj => (HQS.out _ HQ5.out j hj).1) ?_
            simp only [List.getElem_toArray, List.getElem_cons_succ, List.getElem_cons_zero, Act.put, List.setIfInBounds_toArray, List.set_cons_zero, List.set_cons_succ]
            clear hxx
            refine wpAnyH_take (i := 13) (v := .pointer (some (tp y2))) rfl (by kernel_rfl) (by kernel_rfl) (by kernel_rfl) (fun _ _ _ h => h) (Or.inl ⟨by rfl, fun u hu => by (go_simp)⟩) (fun j hj => (HQS.out _ HQ5.out j hj).1) ?_
            simp only [List.getElem_toArray, List.getElem_cons_succ, List.getElem_cons_zero, Act.put, List.setIfInBounds_toArray, List.set_cons_zero, List.set_cons_succ]
            refine wpAnyH_ready (rs := [14]) (by kernel_rfl) (by simp) ?_
            refine AllReadyH.cons rfl (fun KK hK => ?_) (AllReadyH.nil)
            have c9 := (HQS.out _ HQ5.out y2 hy26).2
            have f9 := HQF.out _ y2 HQ5.out hy26
            have HX9 := Lib.hid (show -9223372036854775808 ≤ xx ∧ xx ≤ 9223372036854775807 from by rw [← HXX.out, IntKind.wrap_i64]; omega)
            go_simp
            have HZ9 := Lib.hid (HQZ.out _ y2 xx HQ5.out hy26 HX9.out)
            refine hK.out _ (V4.setCell (tp y2) (.int .i64 xx)) (fun j hj => (World.cell?_of_block (Below.heap_setCell V4 (tp y2) (.int .i64 xx) mb (HQM.out _ y2 HQ5.out hy26))).trans (HQS.out _ HQ5.out j hj).1) (fun _ => ?_)
            clear hK KK c9 f9
            simp only [List.setIfInBounds_toArray, List.set_cons_zero, List.set_cons_succ]
            refine wpAnyH_done (by kernel_rfl) ?_ _
            go_wp2_with fail
            go_meet
            case rel => exact HZ9.out
      · go_simp
        have HQ1 := Lib.hid (HQB.out _ _ (below_one V0 (.cells #[.int .i64 bq] 3)) HQ0.out)
        have I9 := Lib.hid (ints_lone V0 bq)
        refine hK.out _ _ (fun j hj => (HQS.out _ HQ1.out j hj).1) (fun _ => ?_)
        clear hK KK
        simp only [List.setIfInBounds_toArray, List.set_cons_zero, List.set_cons_succ]
        generalize V0.alloc (.cells #[.int .i64 bq] 3) = V1 at *
        generalize V0.heap.size = b9 at *
        refine wpAnyH_ready (rs := [2]) (by kernel_rfl) (by simp) ?_
        refine AllReadyH.cons rfl (fun KK hK => ?_) (AllReadyH.nil)
        go_simp
        have HQ2 := Lib.hid (HQB.out _ _ (below_one V1 (.cells #[.int .i64 wh] 3)) HQ1.out)
        have I2 := Lib.hid (ints_lone V1 wh)
        have I9x := Lib.hid (I9.out.below (below_one V1 (.cells #[.int .i64 wh] 3)))
        refine hK.out _ _ (fun j hj => (HQS.out _ HQ2.out j hj).1) (fun _ => ?_)
        clear hK KK
        simp only [List.setIfInBounds_toArray, List.set_cons_zero, List.set_cons_succ]
        generalize V1.alloc (.cells #[.int .i64 wh] 3) = V2 at *
        generalize V1.heap.size = b2 at *
        refine wpAnyH_ready (rs := [3]) (by kernel_rfl) (by simp) ?_
        refine AllReadyH.cons rfl (fun KK hK => ?_) (AllReadyH.nil)
        go_simp
        go_at_call 25
        (with_reducible refine (keepnum0 I2.out 1 6 (by omega) (by omega)).mono ?_)
        rintro e u0 ⟨y2, hy2, rfl, n3, rfl⟩
        have HQ3 := Lib.hid (HQB.out _ _ (below_drewN V2 n3) HQ2.out)
        have I9xy := Lib.hid (I9x.out.below (below_drewN V2 n3))
        refine hK.out _ _ (fun j hj => (HQS.out _ HQ3.out j hj).1) (fun _ => ?_)
        clear hK KK
        simp only [List.setIfInBounds_toArray, List.set_cons_zero, List.set_cons_succ]
        generalize V2.drewN n3 = V3 at *
        have hy26 : y2 < 6 := (by omega)
        have hyl : (y2 : Int) < 6 := (by omega)
        refine wpAnyH_take (i := 4) (v := .pointer (some ⟨mb, y2, none⟩)) rfl (by kernel_rfl) (by kernel_rfl) (by kernel_rfl) (fun _ _ _ h => h) (Or.inl ⟨by rfl, fun u hu => by (go_simp)⟩) (fun j hj => (HQS.out _ HQ3.out j hj).1) ?_
        simp only [List.getElem_toArray, List.getElem_cons_succ, List.getElem_cons_zero, Act.put, List.setIfInBounds_toArray, List.set_cons_zero, List.set_cons_succ]
        refine wpAnyH_take (i := 5) (v := .pointer (some (tp y2))) rfl (by kernel_rfl) (by kernel_rfl) (by kernel_rfl) (fun _ _ _ h => h) (Or.inl ⟨by rfl, fun u hu => by (have c1 := hu y2 hy26; go_simp)⟩) (fun j hj => (HQS.out _ HQ3.out j hj).1) ?_
        simp only [List.getElem_toArray, List.getElem_cons_succ, List.getElem_cons_zero, Act.put, List.setIfInBounds_toArray, List.set_cons_zero, List.set_cons_succ]
        refine wpAnyH_take (i := 6) (v := .pointer (some (tp y2))) rfl (by kernel_rfl) (by kernel_rfl) (by kernel_rfl) (fun _ _ _ h => h) (Or.inl ⟨by rfl, fun u hu => by (go_simp)⟩) (fun j hj => (HQS.out _ HQ3.out j hj).1) ?_
        simp only [List.getElem_toArray, List.getElem_cons_succ, List.getElem_cons_zero, Act.put, List.setIfInBounds_toArray, List.set_cons_zero, List.set_cons_succ]
        refine wpAnyH_ready (rs := [7, 10]) (by kernel_rfl) (by simp) ?_
        refine AllReadyH.cons rfl (fun KK hK => ?_) (AllReadyH.cons rfl (fun KK hK => ?_) (AllReadyH.nil))
        · have c9 := (HQS.out _ HQ3.out y2 hy26).2
          go_simp
          have HQ4 := Lib.hid HQ3.out
          refine hK.out _ _ (fun j hj => (HQS.out _ HQ4.out j hj).1) (fun _ => ?_)
          clear hK KK c9
          simp only [List.setIfInBounds_toArray, List.set_cons_zero, List.set_cons_succ]
          refine wpAnyH_ready (rs := [10]) (by kernel_rfl) (by simp) ?_
          refine AllReadyH.cons rfl (fun KK hK => ?_) (AllReadyH.nil)
          go_simp
          go_at_call 25
          (with_reducible refine (keepnum0 I9xy.out 1 9 (by omega) (by omega)).mono ?_)
          rintro e u0 ⟨y3, hy3, rfl, n10, rfl⟩
          have HQ5 := Lib.hid (HQB.out _ _ (below_drewN V3 n10) HQ4.out)
          refine hK.out _ _ (fun j hj => (HQS.out _ HQ5.out j hj).1) (fun _ => ?_)
          clear hK KK
          simp only [List.setIfInBounds_toArray, List.set_cons_zero, List.set_cons_succ]
          generalize V3.drewN n10 = V5 at *
          refine wpAnyH_take (i := 11) (v := .int .i64 (IntKind.i64.wrap ((y3 : Int) - 4))) rfl (by kernel_rfl) (by kernel_rfl) (by kernel_rfl) (fun _ _ _ h => h) (Or.inl ⟨by rfl, fun u hu => by (go_simp)⟩) (fun j hj => (HQS.out _ HQ5.out j hj).1) ?_
          simp only [List.getElem_toArray, List.getElem_cons_succ, List.getElem_cons_zero, Act.put, List.setIfInBounds_toArray, List.set_cons_zero, List.set_cons_succ]
          obtain ⟨xx, hxx⟩ : ∃ xx, IntKind.i64.wrap (tv y2 + IntKind.i64.wrap ((y3 : Int) - 4)) = xx := ⟨_, rfl⟩
          have HXX := Lib.hid hxx
          refine wpAnyH_take (i := 12) (v := .int .i64 xx) rfl (by kernel_rfl) (by kernel_rfl) (by kernel_rfl) (fun _ _ _ h => h) (Or.inl ⟨by rfl, fun u hu => by (have hq := HXX.out; go_simp)⟩) (fun j hj => (HQS.out _ HQ5.out j hj).1) ?_
          simp only [List.getElem_toArray, List.getElem_cons_succ, List.getElem_cons_zero, Act.put, List.setIfInBounds_toArray, List.set_cons_zero, List.set_cons_succ]
          clear hxx
          refine wpAnyH_take (i := 13) (v := .pointer (some (tp y2))) rfl (by kernel_rfl) (by kernel_rfl) (by kernel_rfl) (fun _ _ _ h => h) (Or.inl ⟨by rfl, fun u hu => by (go_simp)⟩) (fun j hj => (HQS.out _ HQ5.out j hj).1) ?_
          simp only [List.getElem_toArray, List.getElem_cons_succ, List.getElem_cons_zero, Act.put, List.setIfInBounds_toArray, List.set_cons_zero, List.set_cons_succ]
          refine wpAnyH_ready (rs := [14]) (by kernel_rfl) (by simp) ?_
          refine AllReadyH.cons rfl (fun KK hK => ?_) (AllReadyH.nil)
          have c9 := (HQS.out _ HQ5.out y2 hy26).2
          have f9 := HQF.out _ y2 HQ5.out hy26
          have HX9 := Lib.hid (show -9223372036854775808 ≤ xx ∧ xx ≤ 9223372036854775807 from by rw [← HXX.out, IntKind.wrap_i64]; omega)
          go_simp
          have HZ9 := Lib.hid (HQZ.out _ y2 xx HQ5.out hy26 HX9.out)
          refine hK.out _ (V5.setCell (tp y2) (.int .i64 xx)) (fun j hj => (World.cell?_of_block (Below.heap_setCell V5 (tp y2) (.int .i64 xx) mb (HQM.out _ y2 HQ5.out hy26))).trans (HQS.out _ HQ5.out j hj).1) (fun _ => ?_)
          clear hK KK c9 f9
          simp only [List.setIfInBounds_toArray, List.set_cons_zero, List.set_cons_succ]
          refine wpAnyH_done (by kernel_rfl) ?_ _
          go_wp2_with fail
          go_meet
          case rel => exact HZ9.out
        · go_simp
          go_at_call 25
          (with_reducible refine (keepnum0 I9xy.out 1 9 (by omega) (by omega)).mono ?_)
          rintro e u0 ⟨y3, hy3, rfl, n10, rfl⟩
          have HQ4 := Lib.hid (HQB.out _ _ (below_drewN V3 n10) HQ3.out)
          refine hK.out _ _ (fun j hj => (HQS.out _ HQ4.out j hj).1) (fun _ => ?_)
          clear hK KK
          simp only [List.setIfInBounds_toArray, List.set_cons_zero, List.set_cons_succ]
          generalize V3.drewN n10 = V4 at *
          refine wpAnyH_take (i := 11) (v := .int .i64 (IntKind.i64.wrap ((y3 : Int) - 4))) rfl (by kernel_rfl) (by kernel_rfl) (by kernel_rfl) (fun _ _ _ h => h) (Or.inl ⟨by rfl, fun u hu => by (go_simp)⟩) (fun j hj => (HQS.out _ HQ4.out j hj).1) ?_
          simp only [List.getElem_toArray, List.getElem_cons_succ, List.getElem_cons_zero, Act.put, List.setIfInBounds_toArray, List.set_cons_zero, List.set_cons_succ]
          refine wpAnyH_ready (rs := [7]) (by kernel_rfl) (by simp) ?_
          refine AllReadyH.cons rfl (fun KK hK => ?_) (AllReadyH.nil)
          have c9 := (HQS.out _ HQ4.out y2 hy26).2
          go_simp
          have HQ5 := Lib.hid HQ4.out
          refine hK.out _ _ (fun j hj => (HQS.out _ HQ5.out j hj).1) (fun _ => ?_)
          clear hK KK c9
          simp only [List.setIfInBounds_toArray, List.set_cons_zero, List.set_cons_succ]
          obtain ⟨xx, hxx⟩ : ∃ xx, IntKind.i64.wrap (tv y2 + IntKind.i64.wrap ((y3 : Int) - 4)) = xx := ⟨_, rfl⟩
          have HXX := Lib.hid hxx
          refine wpAnyH_take (i := 12) (v := .int .i64 xx) rfl (by kernel_rfl) (by kernel_rfl) (by kernel_rfl) (fun _ _ _ h => h) (Or.inl ⟨by rfl, fun u hu => by (have hq := HXX.out; go_simp)⟩) (fun j hj => (HQS.out _ HQ5.out j hj).1) ?_
          simp only [List.getElem_toArray, List.getElem_cons_succ, List.getElem_cons_zero, Act.put, List.setIfInBounds_toArray, List.set_cons_zero, List.set_cons_succ]
          clear hxx
          refine wpAnyH_take (i := 13) (v := .pointer (some (tp y2))) rfl (by kernel_rfl) (by kernel_rfl) (by kernel_rfl) (fun _ _ _ h => h) (Or.inl ⟨by rfl, fun u hu => by (go_simp)⟩) (fun j hj => (HQS.out _ HQ5.out j hj).1) ?_
          simp only [List.getElem_toArray, List.getElem_cons_succ, List.getElem_cons_zero, Act.put, List.setIfInBounds_toArray, List.set_cons_zero, List.set_cons_succ]
          refine wpAnyH_ready (rs := [14]) (by kernel_rfl) (by simp) ?_
          refine AllReadyH.cons rfl (fun KK hK => ?_) (AllReadyH.nil)
          have c9 := (HQS.out _ HQ5.out y2 hy26).2
          have f9 := HQF.out _ y2 HQ5.out hy26
          have HX9 := Lib.hid (show -9223372036854775808 ≤ xx ∧ xx ≤ 9223372036854775807 from by rw [← HXX.out, IntKind.wrap_i64]; omega)
          go_simp
          have HZ9 := Lib.hid (HQZ.out _ y2 xx HQ5.out hy26 HX9.out)
          refine hK.out _ (V4.setCell (tp y2) (.int .i64 xx)) (fun j hj => (World.cell?_of_block (Below.heap_setCell V4 (tp y2) (.int .i64 xx) mb (HQM.out _ y2 HQ5.out hy26))).trans (HQS.out _ HQ5.out j hj).1) (fun _ => ?_)
          clear hK KK c9 f9
          simp only [List.setIfInBounds_toArray, List.set_cons_zero, List.set_cons_succ]
          refine wpAnyH_done (by kernel_rfl) ?_ _
          go_wp2_with fail
          go_meet
          case rel => exact HZ9.out
  case rest =>
  obtain ⟨r', C', hk, ho, hm2, hoi, hb⟩ := hcut
  generalize wc = WF at *
  have KF := Lib.hid hk
  have BF := Lib.hid hb
  have HIF := Lib.hid (show InOp WF xa r' ∧ r'.length = m ∧ OpsI r' from by
    obtain ⟨a9, c9, e9, _, hi9⟩ := ho.inG
    simp only [Value.slice.injEq] at e9
    obtain ⟨rfl, _, _⟩ := e9
    exact ⟨hi9, hm2, hoi⟩)
  clear hk ho hm2 hoi hb KB HO BB
  go_upto_region 13 with fail
  refine wp_region_held_drew (S := (fun u => u.cell? ⟨cb, 0, none⟩ = some (.int .i64 C'))) (by kernel_rfl) (KF.out.at_ 0) (fun _ => ?_)
  change wpAnyH _ _ _ _ _ 8 #[false, false, false, false, false, false, false, false] _ (World.drew _)
  have HW := Lib.hid (BF.out.trans ((below_drew (Below.refl WF.heap.size WF)).mono BF.out.size))
  have HK := Lib.hid (KF.out.below (below_drew (Below.refl _ _)))
  have HI := Lib.hid (HIF.out.1.below (below_drew (Below.refl _ _)))
  clear BF KF
  generalize WF.drew = WG at *
  refine wpAnyH_take (i := 0) (v := .slice xa m xc) rfl (by kernel_rfl) (by kernel_rfl) (by kernel_rfl) (fun _ _ _ h => h) (Or.inl ⟨by rfl, fun u hu => by (go_simp)⟩) (HK.out.at_ 0) ?_
  simp only [List.getElem_toArray, List.getElem_cons_succ, List.getElem_cons_zero, Act.put, List.setIfInBounds_toArray, List.set_cons_zero, List.set_cons_succ]
  refine wpAnyH_take (i := 1) (v := .int .i64 C') rfl (by kernel_rfl) (by kernel_rfl) (by kernel_rfl) (fun _ _ _ h => h) (Or.inl ⟨by rfl, fun u hu => by (have c1 := hu; go_simp)⟩) (HK.out.at_ 0) ?_
  simp only [List.getElem_toArray, List.getElem_cons_succ, List.getElem_cons_zero, Act.put, List.setIfInBounds_toArray, List.set_cons_zero, List.set_cons_succ]
  refine wpAnyH_take (i := 3) (v := .slice xa m xc) rfl (by kernel_rfl) (by kernel_rfl) (by kernel_rfl) (fun _ _ _ h => h) (Or.inl ⟨by rfl, fun u hu => by (go_simp)⟩) (HK.out.at_ 0) ?_
  simp only [List.getElem_toArray, List.getElem_cons_succ, List.getElem_cons_zero, Act.put, List.setIfInBounds_toArray, List.set_cons_zero, List.set_cons_succ]
  refine wpAnyH_take (i := 4) (v := .int .i64 C') rfl (by kernel_rfl) (by kernel_rfl) (by kernel_rfl) (fun _ _ _ h => h) (Or.inl ⟨by rfl, fun u hu => by (have c1 := hu; go_simp)⟩) (HK.out.at_ 0) ?_
  simp only [List.getElem_toArray, List.getElem_cons_succ, List.getElem_cons_zero, Act.put, List.setIfInBounds_toArray, List.set_cons_zero, List.set_cons_succ]
  refine wpAnyH_ready (rs := [2]) (by kernel_rfl) (by simp) ?_
  refine AllReadyH.cons rfl (fun KK hK => ?_) AllReadyH.nil
  go_simp
  go_at_call 30
  (with_reducible refine (linear_any C' HI.out HIF.out.2.1 HIF.out.2.2).mono ?_)
  rintro e w5 ⟨bx, rfl, hb5, b5w⟩
  have HW5 := Lib.hid (HW.out.trans (b5w.mono HW.out.size))
  have HK5 := Lib.hid (HK.out.below b5w)
  have HI5 := Lib.hid (HI.out.below b5w)
  have HB5 := Lib.hid hb5
  clear b5w hb5 HW HK HI
  refine hK.out _ _ (HK5.out.at_ 0) (fun _ => ?_)
  clear hK KK
  simp only [List.setIfInBounds_toArray, List.set_cons_zero, List.set_cons_succ]
  refine wpAnyH_ready (rs := [5]) (by kernel_rfl) (by simp) ?_
  refine AllReadyH.cons rfl (fun KK hK => ?_) AllReadyH.nil
  go_simp
  go_at_call 31
  (with_reducible refine (rlinear_any C' HI5.out HIF.out.2.1).mono ?_)
  rintro e w6 ⟨b6, rfl, hb6, b6w⟩
  have HW6 := Lib.hid (HW5.out.trans (b6w.mono HW5.out.size))
  have HK6 := Lib.hid (HK5.out.below b6w)
  obtain rfl : bx = b6 := lin_same HB5.out hb6
  clear b6w hb6 HB5 HW5 HK5 HI5
  refine hK.out _ _ (HK6.out.at_ 0) (fun _ => ?_)
  clear hK KK
  simp only [List.setIfInBounds_toArray, List.set_cons_zero, List.set_cons_succ]
  have hbb : (bx == bx) = true := by cases bx <;> rfl
  refine wpAnyH_take (i := 6) (v := .bool true) rfl (by kernel_rfl) (by kernel_rfl) (by kernel_rfl) (fun _ _ _ h => h) (Or.inl ⟨by rfl, fun u hu => by (have hq := hbb; go_simp)⟩) (HK6.out.at_ 0) ?_
  simp only [List.getElem_toArray, List.getElem_cons_succ, List.getElem_cons_zero, Act.put, List.setIfInBounds_toArray, List.set_cons_zero, List.set_cons_succ]
  refine wpAnyH_take (i := 7) (v := .bool true) rfl (by kernel_rfl) (by kernel_rfl) (by kernel_rfl) (fun _ _ _ h => h) (Or.inl ⟨by rfl, fun u hu => by (go_simp)⟩) (HK6.out.at_ 0) ?_
  simp only [List.getElem_toArray, List.getElem_cons_succ, List.getElem_cons_zero, Act.put, List.setIfInBounds_toArray, List.set_cons_zero, List.set_cons_succ]
  refine wpAnyH_done (by kernel_rfl) ?_ _
  clear hbb
  go_wp2_with fail
  go_ret
  exact ⟨rfl, HW6.out⟩
  end Go.Proofs.YtjehiekmlbeaeaaGreat
