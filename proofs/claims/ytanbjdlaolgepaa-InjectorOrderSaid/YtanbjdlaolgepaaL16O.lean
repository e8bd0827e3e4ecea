/-
  The walk of the statement InjectorOrder: it returns true. (Written by wip/gen_l16o.py.)
-/
import Derived.Test.YtanbjdlaolgepaaMgBZ
import Derived.LoopTactic
import Derived.OwnWalk
import Derived.Deep.Cut
import Derived.Deep.CutRange
import Derived.Laws.MakeOwn
import Derived.BigRegion
namespace Go.Proofs.Ytanbjdlaolgepaa
open Go Go.RowKit Go.Shelf
set_option linter.unusedSimpArgs false
set_option linter.unusedVariables false

theorem info_bool16 : (Try.prog.info? 4).map (fun i => (i.zero, i.size, i.bytes)) = some (some (.bool false), 1, 1) := by kernel_rfl
/-- A row of Booleans. -/
def SB (w : World) (gs L : Nat) (f : Nat → Bool) : Prop := Blk w gs 4 ((List.range L).map fun t => Value.bool (f t)).toArray
theorem SB.cell {w : World} {gs L : Nat} {f : Nat → Bool} (h : SB w gs L f) {t : Nat} (ht : t < L) : w.cell? ⟨gs, t, none⟩ = some (.bool (f t)) := by
  unfold SB at h
  rw [h.at_, List.getElem?_toArray, List.getElem?_map, List.getElem?_range ht]
  rfl
theorem SB.put {w : World} {gs L : Nat} {f : Nat → Bool} (h : SB w gs L f) (t : Nat) : SB (w.setCell ⟨gs, t, none⟩ (.bool true)) gs L (fun x => if x = t then true else f x) := by
  have hb := Blk.put h t (.bool true)
  unfold SB
  have e : (((List.range L).map fun x => Value.bool (f x)).toArray).setIfInBounds t (.bool true) = ((List.range L).map fun x => Value.bool (if x = t then true else f x)).toArray := by
    rw [List.setIfInBounds_toArray]
    congr 1
    apply List.ext_getElem
    · simp
    · intro i h1 h2
      rw [List.getElem_set]
      by_cases hi : t = i
      · subst hi
        simp
      · rw [if_neg hi]
        simp [show ¬ i = t from fun e => hi e.symm]
  rw [e] at hb
  exact hb
theorem SB.made (w : World) (L : Nat) : SB (w.alloc (.cells (madeCells #[.bool false] L) 4)) w.heap.size L (fun _ => false) := by
  have e : madeCells #[Value.bool false] L = ((List.range L).map fun _ => Value.bool false).toArray := by
    apply Array.ext
    · simp [madeCells]
    · intro i h1 h2
      simp [madeCells, Nat.mod_one]
  unfold SB
  rw [show ((List.range L).map fun t => Value.bool ((fun _ => false) t)).toArray = madeCells #[Value.bool false] L from e.symm]
  exact Blk.made w _ _
theorem SB.below {w w' : World} {gs L : Nat} {f : Nat → Bool} (h : SB w gs L f) (hb : Below w.heap.size w w') : SB w' gs L f := Blk.below h hb
/-- A row of Booleans has changed. -/
theorem EV.mark {w0 w w' : World} {p m k g cap : Nat} {c : Cfg} {hd : List Value} {rv ev : Value} {es : List Ev} {s : St} {gs L : Nat} {f : Nat → Bool} (h : EV w0 p m k g cap c hd rv ev es s w) (hs : SB w gs L f) (hf : Fr [gs] w w') (hlo : w0.heap.size ≤ gs) : EV w0 p m k g cap c hd rv ev es s w' := by
  obtain ⟨cur, hg, _⟩ := h.e.mem.row.blk
  unfold SB at hs
  exact ⟨h.e.fr hf (by simpa using h.e.blk.apart hs (by decide)) (by simpa using h.e.mem.blk.apart hs (by decide)) (by simpa using Blk.apart h.e.clk hs (by decide)) (by simpa using hg.apart hs (by decide)),
    h.v.accs hf (fun j hj => by obtain rfl := List.mem_singleton.1 hj; exact ⟨_, _, hs, by decide⟩), h.l, h.i, h.u, below_of_fr h.b hf (fun y hy => by obtain rfl := List.mem_singleton.1 hy; exact hlo), h.lo⟩
/-- What the first loop keeps. -/
def OrR (w : World) (p m k g cap : Nat) (c : Cfg) (hd : List Value) (rv : Value) (lz : List Int) (L : Nat) (i : Value) (wr : World) : Prop :=
  ∃ (j : Nat) (h : List Int) (s : St) (ev : Value), j ≤ L ∧ i = .int .i64 j ∧ EV w p m k g cap c hd rv ev [] s wr ∧ InjH c h j s ∧ HeapE h ∧ h.Perm ((List.range j).map (keyT lz))
/-- The task that was removed last. -/
def lstI : Option Nat → Int
  | none => -1
  | some l => (l : Int)
/-- What the second loop keeps. -/
def OsR (w : World) (p m k g cap : Nat) (c : Cfg) (hd : List Value) (rv : Value) (lz : List Int) (L gs : Nat) (lv i : Value) (wr : World) : Prop :=
  ∃ (j : Nat) (h : List Int) (rem : List Nat) (lst : Option Nat) (s : St) (ev : Value) (es : List Ev) (f : Nat → Bool), j ≤ L ∧ i = .int .i64 j ∧ lv = .int .i64 (lstI lst) ∧ h.length + j = L ∧ es.length = j ∧ EV w p m k g cap c hd rv ev es s wr ∧ InjH c h L s ∧ Left lz L h rem lst ∧ SB wr gs L f ∧ (∀ t, t ∈ rem → f t = false)

set_option maxRecDepth 100000 in
set_option maxHeartbeats 16000000 in
theorem order16_law {w : World} {la : Option Addr} {L : Nat} {lz : List Int} (lc : Nat) (hl : InH w la L lz) :
    Calls Try.prog 4 #[.slice la L lc] w fun e w' => e = .returned (.bool true) ∧ Below w.heap.size w w' := by
  have hml := hl.2.1
  unfold maxLen at hml
  have HL := Lib.hid hl
  clear hl
  by_cases h64 : 64 < L
  · go_enter Try.func4, Try.ntmps4
    go_wp2
    go_ret
    exact ⟨rfl, Below.refl _ _⟩
  have h65 : decide (64 < (L : Int)) = false := decide_eq_false (by omega)
  have hroom := room_any 64 w
  rw [show ((64 : Nat) : Int) = 64 from rfl] at hroom
  have HT := Lib.hid hroom
  clear hroom
  go_enter Try.func4, Try.ntmps4
  go_wp2_with fail
  (with_reducible refine HT.out.mono ?_)
  rintro e w1 ⟨pa, pn, pc, sa, sn, sc, rfl, hl, hb1⟩
  have hck : chk (roomC 64) = 0 := room_chk ⟨by decide, by decide⟩
  have hHE : (roomC 64).he = 64 := room_he 64
  obtain ⟨c, hcc⟩ : ∃ c, roomC 64 = c := ⟨_, rfl⟩
  rw [hcc] at hl hck hHE ⊢
  have HCK := Lib.hid hck
  have HHE := Lib.hid hHE
  have hbz := below_one w1 (.cells (cc c pa pn pc sa sn sc) 26)
  have Z1 := Lib.hid (Blk.made w1 26 (cc c pa pn pc sa sn sc))
  have H1 := Lib.hid (hl.alloc (.cells (cc c pa pn pc sa sn sc) 26))
  have B1 := Lib.hid (hb1.trans (hbz.mono hb1.size))
  clear hl hb1 HT hck hcc hHE hbz
  go_upto_region 4 with fail
  generalize w1.alloc (.cells (cc c pa pn pc sa sn sc) 26) = W1 at *
  generalize w1.heap.size = z at *
  obtain ⟨x0, x1, x2, x3, x4, x5, x6, x7, x8, x9, x10⟩ := eleven Z1.out
  go_wp2_with fail
  (with_reducible refine (enew_any H1.out _ _ HCK.out).mono ?_)
  rintro e w2 ⟨p, m, k, g, hd, rv, rfl, hE⟩
  have E2 := Lib.hid (show EV w p m k g _ c hd rv (.slice none 0 0) [] _ w2 from ⟨hE.e, OwnE.nil _ _, hE.l, hE.i, hE.u, B1.out.trans (hE.b.mono B1.out.size), by have := hE.lo; have := B1.out.size; omega⟩)
  clear hE B1 H1 HCK Z1 x0 x1 x2 x3 x4 x5 x6 x7 x8 x9 x10
  go_wp2_with fail
  (with_reducible refine (awake16_any _).mono ?_)
  rintro e w3 ⟨rfl, hb⟩
  have E3 := Lib.hid (E2.out.below hb)
  have e20 := E3.out.e.at20
  clear hb E2
  have HNI := Lib.hid (new_inj E3.out.i)
  generalize (rCells c).toNat = cap at *
  generalize St.new cap = s0 at *
  go_wp2_with fail
  clear e20
  go_loopw [6] (fun i wr => OrR w p m k g cap c hd rv lz L i wr) (fun i _ => L - (intOf i).toNat)
  case atStart => exact ⟨0, [], s0, _, by omega, rfl, E3.out, HNI.out, heap_nil, List.Perm.refl _⟩
  case round =>
    clear E3 HNI
    obtain ⟨j, h, s, ev, hj, rfl, hE, hJ, hH, hP⟩ := hrel
    have E0 := Lib.hid hE
    have J0 := Lib.hid hJ
    have HP := Lib.hid (And.intro hH hP)
    clear hE hJ hH hP
    have hjb : (j : Int) < 100 := by omega
    by_cases hlt : j < L
    case pos =>
      obtain ⟨ax, rfl, hx0, hc0, hzr⟩ := (HL.out.below E0.out.b).2.2 j hlt
      obtain ⟨Q, hQ⟩ : ∃ Q : Nat, lz.getD j 0 = (Q : Int) := ⟨(lz.getD j 0).toNat, by omega⟩
      rw [hQ] at hc0 hzr
      have hQ16 : (Q : Int) ≤ 65535 := hzr.2
      obtain ⟨D, hD, hD15⟩ : ∃ D : Nat, (Q : Int) % 32 = (D : Int) ∧ D ≤ 31 := ⟨Q % 32, by omega, by omega⟩
      have HD := Lib.hid (And.intro hD (And.intro hD15 hQ))
      have hj0 : (0 : Int) ≤ (j : Int) := by omega
      have hj1 : (j : Int) < (L : Int) := by omega
      have HJB := Lib.hid (show j < L ∧ j < 64 by omega)
      clear hQ hx0 hzr hD hD15
      go_wp2_with fail
      rw [HD.out.1]
      (with_reducible refine (inserter_new (D : Int) (j : Int) _).mono ?_)
      rintro e w4 ⟨b4, rfl, hv, hbl, hb⟩
      have E4 := Lib.hid (E0.out.below hb)
      have LB4 := Lib.hid hv
      have HBL := Lib.hid (Nat.le_trans E0.out.b.size hbl)
      clear hv hbl hb E0
      have hhl : h.length = j := by have := HP.out.2.length_eq; simpa using this
      have hk : Keyed (D : Int) (j : Int) (j : Int) := by have := HD.out.2; have := HJB.out; exact ⟨by omega, by omega, by omega⟩
      obtain ⟨s5, N5, hr, hN5, hj5⟩ := ins_run (es := []) E4.out.i J0.out (D : Int) (j : Int) hk (by rw [HHE.out, hhl]; have := HJB.out; omega)
      have hke : keyS (D : Int) (j : Int) (j : Int) = keyT lz j := by unfold keyT; rw [HD.out.2.2, HD.out.1]
      rw [hke] at hj5
      have J5 := Lib.hid hj5
      clear hj5 hk hke hhl
      have hA := alone_inserter (most := 200) E4.out.i E4.out.e E4.out.l LB4.out E4.out.v E4.out.b.size (by simp) E4.out.u (insOk_new 10 D j) hr (by omega) (by decide)
      rw [show ((200 : Nat) : Int) = 200 from rfl] at hA
      have HA := Lib.hid hA
      clear hA hc0 hr
      go_wp2_with fail
      (with_reducible refine HA.out.mono ?_)
      rintro e w5 ⟨ev5, rfl, hp, hov, hat, hf⟩
      have E5 := Lib.hid (E4.out.done HBL.out hp hov hf J5.out.m.u)
      clear hp hov hat hf HA E4 LB4 HBL
      go_wp2_with fail
      go_roundw
      case rel => exact ⟨j + 1, _, _, ev5, by have := HJB.out; omega, by go_num, E5.out, J5.out, push_left HP.out.1 HP.out.2⟩
      case measure => simp only [intOf]; have := HJB.out; omega
    case neg =>
    obtain rfl : j = L := by omega
    clear hlt
    have hmk := fun (W : World) => run_make_row' (P := Try.prog) 59 4 (.bool false) 1 Try.underlying59 info_bool16 rfl .i64 .i64 j (by omega) (by omega) W
    go_upto_region 13 with fail
    go_region
    have E1 := Lib.hid (show EV w p m k g cap c hd rv ev [] s (wr.alloc (.cells (madeCells #[.bool false] j) 4)).drew from (E0.out.below (below_one wr (.cells (madeCells #[.bool false] j) 4))).drewN 1)
    have S1 := Lib.hid (show SB (wr.alloc (.cells (madeCells #[.bool false] j) 4)).drew wr.heap.size j (fun _ => false) from SB.made wr j)
    have LF := Lib.hid (Left.first HP.out.1 HP.out.2)
    have hhl : h.length = j := by have := HP.out.2.length_eq; simpa using this
    have HHL := Lib.hid hhl
    have HGS := Lib.hid (E0.out.b.size)
    have hgs : wr.heap.size < (wr.alloc (.cells (madeCells #[.bool false] j) 4)).drew.heap.size := S1.out.lt
    clear hmk hhl HP
    generalize (wr.alloc (.cells (madeCells #[.bool false] j) 4)).drew = W2 at *
    generalize wr.heap.size = gs at *
    clear hgs E0
    go_wp2_with fail
    go_loopw [10, 12] (fun lv i wr => OsR w p m k g cap c hd rv lz j gs lv i wr) (fun _ i _ => j - (intOf i).toNat)
    case atStart => exact ⟨0, h, List.range j, none, s, ev, [], fun _ => false, by omega, rfl, rfl, by have := HHL.out; omega, rfl, E1.out, J0.out, LF.out, S1.out, fun _ _ => rfl⟩
    case round =>
      clear E1 S1 LF HHL J0 h s ev
      obtain ⟨i, h, rem, lst, s, ev, es, f, hi, rfl, rfl, hlen, hes, hE, hJ, hLf, hS, hf0⟩ := hrel
      have E0 := Lib.hid hE
      have J0 := Lib.hid hJ
      have S0 := Lib.hid hS
      have HF := Lib.hid hf0
      have HLN := Lib.hid (And.intro hlen hes)
      have hib : (i : Int) < 100 := by omega
      clear hE hJ hS hf0
      by_cases hlt : i < j
      case neg =>
        obtain rfl : i = j := by omega
        obtain rfl : h = [] := List.eq_nil_of_length_eq_zero (by omega)
        clear hlt hlen hes hLf
        go_wp2_with fail
        (with_reducible refine (remover_new 0 _).mono ?_)
        rintro e w4 ⟨b4, rfl, hv, hbl, hb⟩
        have E4 := Lib.hid (E0.out.below hb)
        obtain ⟨hr, hj5⟩ := rem_none (es := es) J0.out 0
        have hA := alone_remover (most := 200) E4.out.i E4.out.e E4.out.l hv E4.out.v E4.out.b.size (by have := HLN.out; omega) E4.out.u (remOk_new 11 0) hr (by omega) (by decide)
        rw [show ((200 : Nat) : Int) = 200 from rfl] at hA
        have HA := Lib.hid hA
        have HU := Lib.hid hj5.m.u
        have HBL := Lib.hid (Nat.le_trans E0.out.b.size hbl)
        clear hA hr hj5 hv hbl hb E0
        go_wp2_with fail
        (with_reducible refine HA.out.mono ?_)
        rintro e w5 ⟨ev5, rfl, hp, hov, hat, hf⟩
        have E5 := Lib.hid (E4.out.done HBL.out hp hov hf HU.out)
        clear hp hov hat hf HA
        go_wp2
        go_ret
        exact ⟨rfl, E5.out.b⟩
      case pos =>
      obtain ⟨t, htr, htL, hk, hnext, hord⟩ := hLf.pop (by omega) (by omega)
      have HNX := Lib.hid hnext
      have HTR := Lib.hid (And.intro htr (And.intro hLf.nd hlt))
      have h0 : 0 < h.length := by omega
      clear hlen hes hLf hnext htr
      go_wp2_with fail
      (with_reducible refine (remover_new 3 _).mono ?_)
      rintro e w4 ⟨b4, rfl, hv, hbl, hb⟩
      have E4 := Lib.hid (E0.out.below hb)
      have S4 := Lib.hid (S0.out.below hb)
      have LB4 := Lib.hid hv
      have HBL := Lib.hid (Nat.le_trans E0.out.b.size hbl)
      have HNS := Lib.hid (E4.out.nin hv.blk S4.out (by decide) (by decide) (.inl (by decide)) (by decide) (by decide))
      clear hv hbl hb E0 S0
      obtain ⟨s5, N5, hr, hN5, hj5⟩ := rem_run (es := es) E4.out.i J0.out 3 h0
      rw [hk, keyT_task lz (by omega)] at hr
      have J5 := Lib.hid hj5
      clear hj5 hk h0
      have hA := alone_remover (most := 200) E4.out.i E4.out.e E4.out.l LB4.out E4.out.v E4.out.b.size (by have := HLN.out; omega) E4.out.u (remOk_new 11 3) hr (by omega) (by decide)
      rw [show ((200 : Nat) : Int) = 200 from rfl] at hA
      have HA := Lib.hid hA
      clear hA hr
      have hg5 : (es ++ [(⟨13, 3, (t : Int), 0, 0⟩ : Ev)])[i]? = some ⟨13, 3, (t : Int), 0, 0⟩ := by
        rw [List.getElem?_append_right (by have := HLN.out; omega), show i - es.length = 0 by have := HLN.out; omega]
        rfl
      have hl5 : (es ++ [(⟨13, 3, (t : Int), 0, 0⟩ : Ev)]).length = i + 1 := by have := HLN.out; simp; omega
      have HG5 := Lib.hid (And.intro hg5 hl5)
      clear hg5 hl5
      generalize es ++ [(⟨13, 3, (t : Int), 0, 0⟩ : Ev)] = es5 at *
      go_wp2_with fail
      (with_reducible refine HA.out.mono ?_)
      rintro e w5 ⟨ev5, rfl, hp, hov, hat, hf⟩
      have E5 := Lib.hid (E4.out.done HBL.out hp hov hf J5.out.m.u)
      have S5 := Lib.hid (show SB w5 gs j f from Blk.of_same S4.out (hf.block gs S4.out.lt HNS.out))
      clear hp hov hat hf HA E4 S4 LB4 HNS HBL
      have ht0 : (0 : Int) ≤ (t : Int) := by omega
      have ht1 : (t : Int) < (j : Int) := by omega
      have hd1 : decide ((t : Int) < 0) = false := decide_eq_false (by omega)
      have hd2 : decide ((j : Int) ≤ (t : Int)) = false := decide_eq_false (by omega)
      have cs : w5.cell? ⟨gs, t, none⟩ = some (.bool false) := by rw [← HF.out t HTR.out.1]; exact S5.out.cell htL
      obtain ⟨ax, rfl, _, ct, hzt⟩ := (HL.out.below E5.out.b).2.2 t htL
      obtain ⟨Qt, hQt⟩ : ∃ Q : Nat, lz.getD t 0 = (Q : Int) := ⟨(lz.getD t 0).toNat, by omega⟩
      rw [hQt] at ct hzt hord
      have hQt16 : (Qt : Int) ≤ 65535 := hzt.2
      clear hQt hzt
      go_upto_region 20 with fail
      clear hd1 hd2 cs
      have H6 : ∀ nq : Nat, Hid (EV w p m k g cap c hd rv ev5 es5 s5 (w5.drewN nq)) ∧ Hid (SB (w5.drewN nq) gs j f) := fun nq => ⟨Lib.hid (E5.out.drewN nq), Lib.hid (S5.out.below (below_drewN w5 nq))⟩
      cases lst with
      | none =>
        have hl0 : lstI none = -1 := rfl
        rw [hl0]
        go_wp2_with fail
        go_quiet (fail)
        obtain ⟨E6, S6⟩ := H6 nq
        clear H6 E5 S5 ct
        generalize w5.drewN nq = w6 at *
        obtain ⟨va, vc, hve, hin⟩ := E6.out.v.inE
        rw [HG5.out.2] at hve
        subst hve
        obtain ⟨x, rfl, y0, y1, y2, y3, y4⟩ := hin.at_ HG5.out.1
        have hq := fun (W : World) => ev_ne ⟨13, 3, (t : Int), 0, 0⟩ ⟨13, 3, (t : Int), 0, 0⟩ W
        rw [decide_eq_true rfl] at hq
        have c23 : w6.cell? ⟨p, 23, none⟩ = some (.slice (some x) (i + 1) vc) := E6.out.e.at23
        have hn1 : (((i + 1 : Nat) : Int) != (i : Int) + 1) = false := by simp
        have hn2 : ((i : Int) + 1 != (i : Int) + 1) = false := by simp
        have hi0 : (0 : Int) ≤ (i : Int) := by omega
        have hi1 : (i : Int) < ((i + 1 : Nat) : Int) := by omega
        have cs : w6.cell? ⟨gs, t, none⟩ = some (.bool (f t)) := S6.out.cell htL
        have ks : w6.frozen? ⟨gs, t, none⟩ = false := Blk.free S6.out t
        clear hin
        go_wp2_with fail
        have S7 := Lib.hid (S6.out.put t)
        have F7 := Lib.hid (show Fr [gs] w6 (w6.setCell ⟨gs, t, none⟩ (.bool true)) from (Fr.refl _ _).setCell (by simp) _)
        have E7 := Lib.hid (E6.out.mark S6.out F7.out HGS.out)
        go_roundw
        case rel =>
          refine ⟨i + 1, _, _, some t, _, _, es5, _, by have := HTR.out; omega, by go_num, rfl, by rw [popE_len]; have := HLN.out; have := HTR.out; omega, HG5.out.2, E7.out, J5.out, HNX.out, S7.out, fun x hx => ?_⟩
          have h2 := (List.Nodup.mem_erase_iff HTR.out.2.1).1 hx
          show (if x = t then true else f x) = false
          rw [if_neg h2.1]
          exact HF.out x h2.2
        case measure => simp only [intOf]; have := HTR.out; omega
      | some l =>
        obtain ⟨hlL, hll⟩ := hord l rfl
        have hl0 : lstI (some l) = (l : Int) := rfl
        rw [hl0]
        have cl : w5.cell? (ax.add l) = some (.int .u16 (lz.getD l 0)) := (HL.out.below E5.out.b).cell hlL
        have hzl : 0 ≤ lz.getD l 0 ∧ lz.getD l 0 ≤ 65535 := by
          obtain ⟨_, _, _, _, h⟩ := (HL.out.below E5.out.b).2.2 l hlL
          exact h
        obtain ⟨Ql, hQl⟩ : ∃ Q : Nat, lz.getD l 0 = (Q : Int) := ⟨(lz.getD l 0).toNat, by omega⟩
        rw [hQl] at cl hzl hll
        have hQl16 : (Ql : Int) ≤ 65535 := hzl.2
        have hlp : decide ((0 : Int) ≤ (l : Int)) = true := by simp
        have hl00 : (0 : Int) ≤ (l : Int) := by omega
        have hl1 : (l : Int) < (j : Int) := by omega
        have hc1 : decide ((Qt : Int) % 32 < (Ql : Int) % 32) = false := decide_eq_false (by omega)
        have hc1n : decide (Qt % 32 < Ql % 32) = false := decide_eq_false (by omega)
        clear hQl hzl hord
        have HX : Hid ((((Qt : Int) % 32 == (Ql : Int) % 32) = false ∧ (Qt % 32 == Ql % 32) = false) ∨ decide ((t : Int) < (l : Int)) = false ∧ decide (t < l) = false ∧ (((Qt : Int) % 32 == (Ql : Int) % 32) = true ∧ (Qt % 32 == Ql % 32) = true)) := Lib.hid (by
          rcases hll with h | h
          · exact .inl ⟨by simp; omega, by simp; omega⟩
          · exact .inr ⟨decide_eq_false (by omega), decide_eq_false (by omega), by simp; omega, by simp; omega⟩)
        clear hll
        rcases HX.out with ⟨he1, he2⟩ | ⟨hv1, hv2, he1, he2⟩
        · clear HX
          go_wp2_with fail
          go_quiet (fail)
          obtain ⟨E6, S6⟩ := H6 nq
          clear H6 E5 S5 ct cl he1 he2 hc1 hc1n
          generalize w5.drewN nq = w6 at *
          obtain ⟨va, vc, hve, hin⟩ := E6.out.v.inE
          rw [HG5.out.2] at hve
          subst hve
          obtain ⟨x, rfl, y0, y1, y2, y3, y4⟩ := hin.at_ HG5.out.1
          have hq := fun (W : World) => ev_ne ⟨13, 3, (t : Int), 0, 0⟩ ⟨13, 3, (t : Int), 0, 0⟩ W
          rw [decide_eq_true rfl] at hq
          have c23 : w6.cell? ⟨p, 23, none⟩ = some (.slice (some x) (i + 1) vc) := E6.out.e.at23
          have hn1 : (((i + 1 : Nat) : Int) != (i : Int) + 1) = false := by simp
          have hn2 : ((i : Int) + 1 != (i : Int) + 1) = false := by simp
          have hi0 : (0 : Int) ≤ (i : Int) := by omega
          have hi1 : (i : Int) < ((i + 1 : Nat) : Int) := by omega
          have cs : w6.cell? ⟨gs, t, none⟩ = some (.bool (f t)) := S6.out.cell htL
          have ks : w6.frozen? ⟨gs, t, none⟩ = false := Blk.free S6.out t
          clear hin
          go_wp2_with fail
          have S7 := Lib.hid (S6.out.put t)
          have F7 := Lib.hid (show Fr [gs] w6 (w6.setCell ⟨gs, t, none⟩ (.bool true)) from (Fr.refl _ _).setCell (by simp) _)
          have E7 := Lib.hid (E6.out.mark S6.out F7.out HGS.out)
          go_roundw
          case rel =>
            refine ⟨i + 1, _, _, some t, _, _, es5, _, by have := HTR.out; omega, by go_num, rfl, by rw [popE_len]; have := HLN.out; have := HTR.out; omega, HG5.out.2, E7.out, J5.out, HNX.out, S7.out, fun x hx => ?_⟩
            have h2 := (List.Nodup.mem_erase_iff HTR.out.2.1).1 hx
            show (if x = t then true else f x) = false
            rw [if_neg h2.1]
            exact HF.out x h2.2
          case measure => simp only [intOf]; have := HTR.out; omega
        · clear HX
          go_wp2_with fail
          go_quiet (fail)
          obtain ⟨E6, S6⟩ := H6 nq
          clear H6 E5 S5 ct cl he1 he2 hc1 hc1n hv1 hv2
          generalize w5.drewN nq = w6 at *
          obtain ⟨va, vc, hve, hin⟩ := E6.out.v.inE
          rw [HG5.out.2] at hve
          subst hve
          obtain ⟨x, rfl, y0, y1, y2, y3, y4⟩ := hin.at_ HG5.out.1
          have hq := fun (W : World) => ev_ne ⟨13, 3, (t : Int), 0, 0⟩ ⟨13, 3, (t : Int), 0, 0⟩ W
          rw [decide_eq_true rfl] at hq
          have c23 : w6.cell? ⟨p, 23, none⟩ = some (.slice (some x) (i + 1) vc) := E6.out.e.at23
          have hn1 : (((i + 1 : Nat) : Int) != (i : Int) + 1) = false := by simp
          have hn2 : ((i : Int) + 1 != (i : Int) + 1) = false := by simp
          have hi0 : (0 : Int) ≤ (i : Int) := by omega
          have hi1 : (i : Int) < ((i + 1 : Nat) : Int) := by omega
          have cs : w6.cell? ⟨gs, t, none⟩ = some (.bool (f t)) := S6.out.cell htL
          have ks : w6.frozen? ⟨gs, t, none⟩ = false := Blk.free S6.out t
          clear hin
          go_wp2_with fail
          have S7 := Lib.hid (S6.out.put t)
          have F7 := Lib.hid (show Fr [gs] w6 (w6.setCell ⟨gs, t, none⟩ (.bool true)) from (Fr.refl _ _).setCell (by simp) _)
          have E7 := Lib.hid (E6.out.mark S6.out F7.out HGS.out)
          go_roundw
          case rel =>
            refine ⟨i + 1, _, _, some t, _, _, es5, _, by have := HTR.out; omega, by go_num, rfl, by rw [popE_len]; have := HLN.out; have := HTR.out; omega, HG5.out.2, E7.out, J5.out, HNX.out, S7.out, fun x hx => ?_⟩
            have h2 := (List.Nodup.mem_erase_iff HTR.out.2.1).1 hx
            show (if x = t then true else f x) = false
            rw [if_neg h2.1]
            exact HF.out x h2.2
          case measure => simp only [intOf]; have := HTR.out; omega
end Go.Proofs.Ytanbjdlaolgepaa
