/-
  Words for opening a law's arguments, whatever their types.
  Slices of ints that came in.
  Stage 11: the game that begins, a pick of it.
  Stage 11: Play.
-/
import Derived.Test.YtjehiekmlbeaeaaGreatRows
import Derived.WalkKit
import Derived.ProofKit
import Derived.OpenShut
import Derived.ShutString
import Derived.ChangeOld
import Derived.Deep.Slices
import Derived.Deep.Fields
import Derived.Test.YtjehiekmlbeaeaaGreatPlB
namespace Go.Proofs.YtjehiekmlbeaeaaGreat
open Go Go.ChangeShapes Go.WideShapes Go.ChangeAt Go.RowKit

theorem ownKnobs : ownKnob Tryz.prog.godebug = none := by kernel_rfl
theorem laidOut : laidOutB Tryz.prog = true := by kernel_rfl

theorem u64_nat {a : Int} (h : (Lit.int .u64 a).wf = true) : ∃ x : Nat, a = (x : Int) ∧ x < 18446744073709551616 := by
  simp only [Lit.wf, Bool.and_eq_true, decide_eq_true_eq] at h
  have h0 : IntKind.u64.min = 0 := rfl
  have h1 : IntKind.u64.max = 18446744073709551615 := rfl
  rw [h0, h1] at h
  exact ⟨a.toNat, by omega, by omega⟩

theorem i64_in {a : Int} (h : (Lit.int .i64 a).wf = true) : -9223372036854775808 ≤ a ∧ a ≤ 9223372036854775807 := by
  simp only [Lit.wf, Bool.and_eq_true, decide_eq_true_eq] at h
  have h0 : IntKind.i64.min = -9223372036854775808 := rfl
  have h1 : IntKind.i64.max = 9223372036854775807 := rfl
  rw [h0, h1] at h
  exact h

theorem u8_in {a : Int} (h : (Lit.int .u8 a).wf = true) : 0 ≤ a ∧ a ≤ 255 := by
  simp only [Lit.wf, Bool.and_eq_true, decide_eq_true_eq] at h
  have h0 : IntKind.u8.min = 0 := rfl
  have h1 : IntKind.u8.max = 255 := rfl
  rw [h0, h1] at h
  exact h
end Go.Proofs.YtjehiekmlbeaeaaGreat

namespace Go.Proofs.YtjehiekmlbeaeaaGreat
open Go Go.ChangeShapes Go.WideShapes Go.ChangeAt Go.RowKit

/-- The slice (a, n) reads as the numbers zs (ints). -/
def InInts (w : World) (a : Option Addr) (n : Nat) (zs : List Int) : Prop :=
  zs.length = n ∧ n ≤ maxLen ∧ ∀ i, i < n → ∃ x : Addr, a = some x ∧ x.block < w.heap.size ∧ w.cell? (x.add i) = some (.int .i64 (zs.getD i 0))

theorem InInts.below {w w' : World} {a : Option Addr} {n : Nat} {zs : List Int} (h : InInts w a n zs) (hb : Below w.heap.size w w') : InInts w' a n zs :=
  ⟨h.1, h.2.1, fun i hi => by
    obtain ⟨x, e, hx, hc⟩ := h.2.2 i hi
    refine ⟨x, e, Nat.lt_of_lt_of_le hx hb.size, ?_⟩
    rw [hb.cell (by rw [show (x.add i).block = x.block by unfold Addr.add; split <;> rfl]; exact hx)]
    exact hc⟩

theorem InInts.cell {w : World} {x : Addr} {n i : Nat} {zs : List Int} (h : InInts w (some x) n zs) (hi : i < n) : w.cell? (x.add i) = some (.int .i64 (zs.getD i 0)) := by
  obtain ⟨y, e, _, hc⟩ := h.2.2 i hi
  cases e
  exact hc

set_option maxRecDepth 100000 in
theorem open_introw {H : Type} {enc : TypeId × Value → H} {w : World} {base b0 : Nat} {spare : Nat → Bool} {held : Bool} {r : Reach} {v : Value} {d : DataW H} {p : List MemPlace}
    (hv : Value.okWide Tryz.prog w r b0 60 v) (h : DataW.Trod enc Tryz.prog w base spare held 60 v d p) :
    ∃ (a : Option Addr) (n c : Nat) (zs : List Int), v = .slice a n c ∧ InInts w a n zs := by
  obtain ⟨a, n, c, rfl⟩ := okWide_slice Tryz.underlying60 hv
  obtain ⟨fuel, hf⟩ := h
  rcases open_ints Tryz.underlying60 Tryz.underlying3 (by kernel_rfl) hf with ⟨hcs, _⟩ | ⟨x, l, c', zs, hcs, _, hl, hm, hz, _, hcell, _⟩
  · simp [Value.cells] at hcs
    obtain ⟨rfl, rfl, rfl⟩ := hcs
    exact ⟨_, _, _, [], rfl, rfl, by simp, fun i hi => absurd hi (by omega)⟩
  · simp [Value.cells] at hcs
    obtain ⟨rfl, rfl, rfl⟩ := hcs
    have hnz : n ≤ zs.length := by rw [hz]; split <;> omega
    refine ⟨_, _, _, zs.take n, rfl, by simp; omega, by omega, fun i hi => ⟨x, rfl, ?_, ?_⟩⟩
    · have := World.block_lt_of_cell? w _ (hcell i (by omega))
      rwa [show (x.add i).block = x.block by unfold Addr.add; split <;> rfl] at this
    · rw [hcell i (by omega), List.getD_eq_getElem?_getD, List.getD_eq_getElem?_getD, List.getElem?_take, if_pos hi]
end Go.Proofs.YtjehiekmlbeaeaaGreat

namespace Go.Proofs.YtjehiekmlbeaeaaGreat
open Go Go.RowKit Go.Shelf
set_option linter.unusedSimpArgs false
set_option linter.unusedVariables false

theorem new_Np (n : Nat) : (St.new n).N := fun i => by
  unfold St.old St.new
  split
  · rw [List.getD_eq_getElem?_getD, List.getElem?_replicate]
    split <;> simp
  · exact Int.le_refl 0
/-- The game has begun. -/
theorem BG.gw {w0 w : World} {gb p m k g C n N : Nat} {plan : List (List ActR)} {V : List Value} {pv : Value} (h : BG w0 w gb p m k g C n N plan V pv) (hN : plan.length = N) (h0 : 0 < N) :
    ∃ bp pc q row, pv = .slice (some ⟨bp, 0, none⟩) N pc ∧ GW w0 w gb p m k g n bp N pc C q row (.slice none 0 0) (PlS.first (St.new n) plan) := by
  obtain ⟨bp, pc, cur, e, hB, hb, hn, hm, hs, hc⟩ := h.pl.blk (by simp; intro e; rw [e] at h; have := h.len; simp at this; omega)
  rw [List.length_map, h.len] at e hn hc
  subst e
  have hrow : ∀ i, i < N → (V.map rowP).getD i [] = rowP (V.getD i undef) := fun i hi => by
    rw [List.getD_eq_getElem?_getD, List.getD_eq_getElem?_getD, List.getElem?_map, List.getElem?_eq_getElem (by rw [h.len]; exact hi)]
    rfl
  refine ⟨bp, pc, fun _ => 0, fun i j => (rowP (V.getD i undef)).getD j undef, rfl, h.gm, h.pe, new_Np n, ⟨cur, hb, fun i j hi hj => ?_⟩, OwnG.nil .., ?_, fun i hi => ?_, fun i hi => ?_, fun i j hi hj hij h1 => ?_, fun i hi h1 => ?_, ⟨h.lb.1, h.lb.2.1, h.lb.2.2.1, h.lb.2.2.2.1, h.lb.2.2.2.2, hB⟩, h.b⟩
  · rw [hc i j hi hj, hrow i hi]
    match j, hj with
    | 0, _ => rfl
    | 1, _ => rfl
    | 2, _ => rfl
    | 3, _ => rfl
    | 4, _ => rfl
    | 5, _ => rfl
    | 6, _ => rfl
    | 7, _ => rfl
  · show (plrs plan).length = N
    rw [plrs_len, hN]
  · have hp : (PlS.first (St.new n) plan).P.getD i .no = ⟨(plan.getD i []).filter (canR i), .no⟩ := plrs_at plan i (by omega)
    rw [hp]
    refine ⟨h.ac i hi, rfl, fun j h2 h8 => ?_, fun hx => absurd rfl hx⟩
    match j, h2, h8 with
    | 2, _, _ => exact ⟨0, rfl⟩
    | 3, _, _ => exact ⟨0, rfl⟩
    | 4, _, _ => exact ⟨0, rfl⟩
    | 5, _, _ => exact ⟨0, rfl⟩
    | 6, _, _ => exact ⟨0, rfl⟩
    | 7, _, _ => exact ⟨0, rfl⟩
  · rw [show (PlS.first (St.new n) plan).P.getD i .no = ⟨(plan.getD i []).filter (canR i), .no⟩ from plrs_at plan i (by omega)]
    trivial
  · rw [show (PlS.first (St.new n) plan).P.getD i .no = ⟨(plan.getD i []).filter (canR i), .no⟩ from plrs_at plan i (by omega)] at h1
    exact absurd rfl h1
  · rw [show (PlS.first (St.new n) plan).P.getD i .no = ⟨(plan.getD i []).filter (canR i), .no⟩ from plrs_at plan i (by omega)] at h1
    exact absurd rfl h1
/-- The game while it is played. -/
structure PG (w0 w : World) (gb p m k g cap bp K pc C : Nat) (S : PlS) : Prop where
  gx : GX w0 gb p m k g cap bp K pc C S w
  ok : AllOk S
  len : S.P.length = K
  cnt : S.cnt ≤ 900000
section
variable {w0 w : World} {gb p m k g cap bp K pc C : Nat} {S : PlS}
theorem PG.outs (h : PG w0 w gb p m k g cap bp K pc C S) : S.out.length ≤ 900000 := by
  have := h.cnt
  unfold PlS.cnt at this
  omega
theorem PG.pick {i : Nat} (h : PG w0 w gb p m k g cap bp K pc C S) (hi : i < K) (hC : (C : Int) ≤ 100) (hn : S.now ≤ 1000000) :
    Calls Tryz.prog 63 #[.pointer (some ⟨gb, 0, none⟩), .int .i64 i] w fun e w' => e = .returned (.tuple #[]) ∧ PG w0 w' gb p m k g cap bp K pc C (pickP C i S) := by
  obtain ⟨q, row, ov, hg⟩ := h.gx
  refine (pick_any hg hi h.ok hC hn h.outs).mono ?_
  rintro e w' ⟨rfl, hg'⟩
  have hl : i < S.P.length := by rw [h.len]; exact hi
  obtain ⟨h1, h2, _⟩ := pick_ok (C := (C : Int)) h.ok hl
  exact ⟨rfl, hg', h1, by rw [h2, h.len], by rw [(pick_sum (C := (C : Int)) h.ok hl).1]; exact h.cnt⟩
end
end Go.Proofs.YtjehiekmlbeaeaaGreat

namespace Go.Proofs.YtjehiekmlbeaeaaGreat
open Go Go.RowKit Go.Shelf
set_option linter.unusedSimpArgs false
set_option linter.unusedVariables false

theorem picksP_succ {C : Int} {K : Nat} {l : List Int} {S : PlS} {j : Nat} (h : j < l.length) : picksP C K (l.take (j + 1)) S = pickP C ((l.getD j 0).emod K).toNat (picksP C K (l.take j) S) := by
  unfold picksP
  rw [List.take_add_one, List.getElem?_eq_getElem h, List.foldl_append, List.getD_eq_getElem?_getD, List.getElem?_eq_getElem h]
  rfl
/-- What Play needs of its arguments. -/
structure PlyIn (w : World) (a b : Option Addr) (N M : Nat) (plan : List (List ActR)) (picks : List Int) (n : Nat) : Prop where
  pl : InPl w a plan
  ln : plan.length = N
  hN : N ≤ 900000
  ps : InInts w b M picks
  hM : M ≤ 190000
  pi : PlanIn plan
  pr : ∀ i, i < M → -9223372036854775808 ≤ picks.getD i 0 ∧ picks.getD i 0 ≤ 9223372036854775807
  td : M + (PlS.first (St.new n) plan).todo ≤ 190000
  ct : (PlS.first (St.new n) plan).cnt ≤ 900000
set_option maxRecDepth 100000 in
set_option maxHeartbeats 8000000 in
theorem play_any {w : World} {a b : Option Addr} {N M c d C : Nat} {z : Int} {plan : List (List ActR)} {picks : List Int} (h : PlyIn w a b N M plan picks (sizeS (2 + C))) (hC : min (max z 1) 64 = (C : Int)) :
    Calls Tryz.prog 28 #[.int .i64 z, .slice a N c, .slice b M d] w fun e w' => ∃ v r, e = .returned v ∧ OwnG w' w.heap.size 80 6 v (r.map opL) ∧ Plays (St.new (sizeS (2 + C))) C plan picks r ∧ Below w.heap.size w w' := by
  have HO := Lib.hid h
  have hC2 : (C : Int) ≤ 100 := by omega
  have HC := Lib.hid hC2
  have hNi : (N : Int) ≤ 900000 := by have := h.hN; omega
  have hMi : (M : Int) ≤ 900000 := by have := h.hM; omega
  have hpl := h.ln
  clear h
  go_enter Tryz.func28, Tryz.ntmps28
  by_cases h0 : N = 0
  case pos =>
    subst h0
    have HR := Lib.hid (show Plays (St.new (sizeS (2 + C))) C plan picks [] from by
      unfold Plays
      rw [if_pos (List.eq_nil_of_length_eq_zero hpl)])
    clear hpl
    have hd : decide ((0 : Int) = 0) = true := by decide
    go_wp2_with fail
    go_ret
    exact ⟨_, rfl, [], OwnG.nil .., HR.out, Below.refl _ _⟩
  have hz : ¬ ((N : Int) = 0) := by omega
  have hd : decide ((N : Int) = 0) = false := by simp; omega
  go_wp2_with fail
  refine (begin_any HO.out.pl HO.out.ln HO.out.hN HC.out).mono ?_
  rintro e w1 ⟨gb, p, m, k, g, V, pv, rfl, hb⟩
  obtain ⟨bp, pc, q0, row0, hpv, hg⟩ := hb.gw hpl (by omega)
  have HG := Lib.hid (show PG w w1 gb p m k g (sizeS (2 + C)) bp N pc C (PlS.first (St.new (sizeS (2 + C))) plan) from ⟨⟨q0, row0, _, hg⟩, first_ok _ HO.out.pi, by show (plrs plan).length = N; rw [plrs_len, hpl], HO.out.ct⟩)
  have HP := Lib.hid (show 0 < N by omega)
  clear hb hg hpv h0 hpl
  obtain ⟨S0, hS0⟩ : ∃ S, PlS.first (St.new (sizeS (2 + C))) plan = S := ⟨_, rfl⟩
  have HT := Lib.hid (show S0.now = 0 ∧ M + S0.todo ≤ 190000 from by rw [← hS0]; exact ⟨rfl, HO.out.td⟩)
  rw [hS0] at HG
  have HS0 := Lib.hid hS0
  clear hS0
  go_wp2_with fail
  go_loopw [21] (fun x wr => ∃ j : Nat, x = .int .i64 j ∧ j ≤ M ∧ PG w wr gb p m k g (sizeS (2 + C)) bp N pc C (picksP C N (picks.take j) S0) ∧ (picksP C N (picks.take j) S0).now + (picksP C N (picks.take j) S0).todo + (M - j) ≤ 190000) (fun x _ => M - (intOf x).toNat)
  case atStart => exact ⟨0, rfl, by omega, HG.out, by
    show S0.now + S0.todo + (M - 0) ≤ 190000
    have := HT.out
    omega⟩
  case round =>
    obtain ⟨j, rfl, hj, hg, hnw⟩ := hrel
    obtain ⟨S, hS⟩ : ∃ S, picksP C N (picks.take j) S0 = S := ⟨_, rfl⟩
    rw [hS] at hg hnw
    have HG := Lib.hid hg
    have HN := Lib.hid hnw
    have HSS := Lib.hid hS
    clear hg hnw hS
    by_cases hlt : j < M
    case neg =>
      have hjM : j = M := by omega
      subst hjM
      have hf2 : decide ((j : Int) < (j : Int)) = false := by simp
      have HS1 := Lib.hid (show picksP C N picks S0 = S from by rw [← HSS.out, List.take_of_length_le (by rw [HO.out.ps.1]; exact Nat.le_refl _)])
      have HN1 := Lib.hid (show S.now + S.todo ≤ 190000 by have := HN.out; omega)
      clear HN HSS
      obtain ⟨q1, row1, ov1, hg1⟩ := HG.out.gx
      have c5 : wr.cell? ⟨gb, 5, none⟩ = some (.slice (some ⟨bp, 0, none⟩) N pc) := hg1.gm.at_ 5
      clear hg1
      go_wp2_with fail
      clear c5
      go_loopw [37] (fun x wy => ∃ (i : Nat) (T : PlS), x = .int .i64 i ∧ i ≤ N ∧ PG w wy gb p m k g (sizeS (2 + C)) bp N pc C T ∧ T.now + T.todo ≤ 190000 ∧ ∀ r, Ends C i T r → Ends C 0 S r) (fun x _ => N - (intOf x).toNat)
      case atStart => exact ⟨0, S, rfl, by omega, HG.out, HN1.out, fun r hr => hr⟩
      case round =>
        obtain ⟨i, T, rfl, hi, hg, hnw, hen⟩ := hrel
        obtain ⟨q2, row2, ov2, hg2⟩ := hg.gx
        have c7 : wr.cell? ⟨gb, 7, none⟩ = some ov2 := hg2.gm.at_ 7
        by_cases hil : i < N
        case neg =>
          have hiN : i = N := by omega
          subst hiN
          have hf3 : decide ((i : Int) < (i : Int)) = false := by simp
          have HR := Lib.hid (show OwnG wr w.heap.size 80 6 ov2 (T.out.map opL) ∧ Plays (St.new (sizeS (2 + C))) C plan picks T.out ∧ Below w.heap.size w wr from ⟨hg2.out, by
            unfold Plays
            rw [if_neg (fun e => by have h1 := HO.out.ln; rw [e] at h1; have h2 := HP.out; simp at h1; omega)]
            rw [HO.out.ln, HS0.out, HS1.out]
            exact hen _ (Ends.over (by rw [hg.len]; exact Nat.le_refl _)), hg2.b⟩)
          clear hg hnw hen hg2
          go_wp2_with fail
          go_ret
          exact ⟨_, T.out, rfl, HR.out⟩
        clear c7 hg2
        have HG2 := Lib.hid (And.intro hg (And.intro hnw hen))
        clear hg hnw hen
        have hil2 : (i : Int) < (N : Int) := by omega
        have hi0 : (0 : Int) ≤ (i : Int) := by omega
        go_wp2_with fail
        go_loopw [] (fun wz => ∃ U : PlS, PG w wz gb p m k g (sizeS (2 + C)) bp N pc C U ∧ U.now + U.todo ≤ 190000 ∧ ∀ r, Ends C i U r → Ends C i T r) (fun wz => 190000 - (match wz.cell? ⟨gb, 6, none⟩ with | some v => (intOf v).toNat | none => 0))
        case atStart => exact ⟨T, HG2.out.1, HG2.out.2.1, fun r hr => hr⟩
        case round =>
          obtain ⟨U, hgU, hnU, heU⟩ := hrel
          obtain ⟨q3, row3, ov3, hg3⟩ := hgU.gx
          have c5 : wr.cell? ⟨gb, 5, none⟩ = some (.slice (some ⟨bp, 0, none⟩) N pc) := hg3.gm.at_ 5
          have c6 := Lib.hid (show wr.cell? ⟨gb, 6, none⟩ = some (.int .i64 U.now) from hg3.gm.at_ 6)
          have hpl3 := hg3.pl i hil
          obtain ⟨xa, xc, hx0, hxc⟩ := hpl3.ac.form
          have HBU := Lib.hid (busy_any hg3.pb hil hx0 hpl3.mv)
          have HGU := Lib.hid (And.intro hgU (And.intro hnU heU))
          have HBB := Lib.hid (show (!(U.P.getD i .no).x.m.idle || decide (0 < (U.P.getD i .no).acts.length)) = (U.P.getD i .no).busy from by
            unfold Plr.busy
            cases (U.P.getD i .no).acts <;> simp)
          clear hgU hnU heU hg3 hpl3 hx0 hxc
          go_wp2_with fail
          refine HBU.out.mono ?_
          rintro e w4 ⟨rfl, rfl⟩
          rw [HBB.out]
          obtain ⟨bz, hbz⟩ : ∃ bz, (U.P.getD i .no).busy = bz := ⟨_, rfl⟩
          rw [hbz]
          have HZ := Lib.hid hbz
          clear HBU HBB hbz c5
          cases bz with
          | false =>
            go_wp2_with fail
            go_roundw
            case rel => exact ⟨i + 1, U, by rfl, by omega, HGU.out.1, HGU.out.2.1, fun r hr => HG2.out.2.2 r (HGU.out.2.2 r (Ends.rest (by rw [HGU.out.1.len]; exact hil) HZ.out hr))⟩
            case measure => simp only [intOf]; omega
          | true =>
            have hlU : i < U.P.length := by rw [HGU.out.1.len]; exact hil
            have HSM := Lib.hid (And.intro (pick_ok (C := (C : Int)) HGU.out.1.ok hlU) ((pick_sum (C := (C : Int)) HGU.out.1.ok hlU).2.2 HZ.out))
            have HP2 := Lib.hid (HGU.out.1.pick hil HC.out (by have := HGU.out.2.1; omega))
            have HEN := Lib.hid (fun (r : List OpR) hr => HGU.out.2.2 r (Ends.step hlU HZ.out hr))
            clear hlU
            go_wp2_with fail
            refine HP2.out.mono ?_
            rintro e w5 ⟨rfl, hg5⟩
            obtain ⟨q5, row5, ov5, hg6⟩ := hg5.gx
            have d6 := Lib.hid (show w5.cell? ⟨gb, 6, none⟩ = some (.int .i64 (pickP C i U).now) from hg6.gm.at_ 6)
            have HG5 := Lib.hid hg5
            clear hg5 hg6 HP2
            go_wp2_with fail
            go_roundw
            case rel => exact ⟨_, HG5.out, by rw [HSM.out.1.2.2]; have h1 := HSM.out.2; have h2 := HGU.out.2.1; omega, HEN.out⟩
            case measure =>
              rw [c6.out, d6.out, HSM.out.1.2.2]
              have h1 := HSM.out.2
              have h2 := HGU.out.2.1
              simp only [intOf]
              omega
    have hlt2 : (j : Int) < (M : Int) := by omega
    have hj0 : (0 : Int) ≤ (j : Int) := by omega
    have hbw : Below w.heap.size w wr := by
      obtain ⟨q, row, ov, hg⟩ := HG.out.gx
      exact hg.b
    obtain ⟨x, hbx, hxb, hcx⟩ := (HO.out.ps.below hbw).2.2 j hlt
    subst hbx
    clear hbw hxb
    obtain ⟨y, hy⟩ : ∃ y, picks.getD j 0 = y := ⟨_, rfl⟩
    rw [hy] at hcx
    have HY := Lib.hid (And.intro hy (hy ▸ HO.out.pr j hlt))
    clear hy
    go_wp2_with fail
    refine (modulo_any y N HP.out (by have := HO.out.hN; omega) HY.out.2 _).mono ?_
    rintro e w2 ⟨rfl, rfl⟩
    have hin : (y.emod N).toNat < N := by
      have h1 := Int.emod_nonneg y (show (N : Int) ≠ 0 by have := HP.out; omega)
      have h2 := Int.emod_lt_of_pos y (show (0 : Int) < (N : Int) by have := HP.out; omega)
      exact (Int.toNat_lt h1).2 h2
    have HP2 := Lib.hid (HG.out.pick hin HC.out (by have := HN.out; omega))
    have HNX := Lib.hid (show picksP C N (picks.take (j + 1)) S0 = pickP C (y.emod N).toNat S from by rw [picksP_succ (by rw [HO.out.ps.1]; exact hlt), HY.out.1, HSS.out])
    have HSM := Lib.hid (And.intro (pick_ok (C := (C : Int)) HG.out.ok (by rw [HG.out.len]; exact hin)) (pick_sum (C := (C : Int)) HG.out.ok (by rw [HG.out.len]; exact hin)))
    clear hin hcx
    generalize (y.emod N).toNat = i0 at *
    go_wp2_with fail
    refine HP2.out.mono ?_
    rintro e w3 ⟨rfl, hg3⟩
    have HG3 := Lib.hid hg3
    clear hg3 HP2
    go_wp2_with fail
    go_roundw
    case rel => exact ⟨j + 1, by rfl, by omega, by rw [HNX.out]; exact HG3.out, by rw [HNX.out, HSM.out.1.2.2]; have h1 := HSM.out.2.2.1; have h2 := HN.out; omega⟩
    case measure => simp only [intOf]; omega
end Go.Proofs.YtjehiekmlbeaeaaGreat
