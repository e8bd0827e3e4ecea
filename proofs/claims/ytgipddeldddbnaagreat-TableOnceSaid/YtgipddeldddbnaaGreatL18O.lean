/-
  The walk of the statement TableOnce: it returns true.
-/
import Derived.Test.YtgipddeldddbnaaGreatMgBW
import Derived.Test.YtgipddeldddbnaaGreatMgBZ
import Derived.Test.YtgipddeldddbnaaGreatMgBU
namespace Go.Proofs.YtgipddeldddbnaaGreat
open Go Go.RowKit Go.Shelf
set_option linter.unusedSimpArgs false
set_option linter.unusedVariables false

abbrev byu : List Int := [3, 1]
/-- What the law knows of the task: whether it is ready, whether it has started. -/
structure OX (c : Cfg) (x : St × List Rec × List Ev) (rdy : Bool) (n : Nat) : Prop where
  h : x.1.has (rTask c 0 0)
  o : x.1.hit (rTask c 0 0) 1 = rdy
  r : 0 < x.2.1.length
  s : (x.2.1.getD 0 zrec).st = decide (0 < n)
theorem OX.enter {c : Cfg} {x : St × List Rec × List Ev} {rdy : Bool} {n : Nat} (h : OX c x rdy n) {s' : St} (hs : s'.has (rTask c 0 0) ∧ s'.old (rTask c 0 0) = 1) : OX c (s', x.2) true n :=
  ⟨hs.1, by unfold St.hit; rw [hs.2]; simp [hs.1], h.r, h.s⟩
theorem OX.claim {c : Cfg} {x : St × List Rec × List Ev} {rdy : Bool} {n : Nat} (h : OX c x rdy n) (a : Int) :
    OX c (clmX c x (fraCl a 0)).1 false (if rdy = true then n + 1 else n) ∧ (clmX c x (fraCl a 0)).2.2 = (if rdy = true then ⟨true, 1, 0⟩ else ⟨true, 4, 0⟩) ∧
    (clmX c x (fraCl a 0)).1.2.2 = x.2.2 ++ [⟨if rdy = true then (if 0 < n then 9 else 5) else 15, a, 0, 0, 0⟩] := by
  have hg : ∀ (F : Int → Int), (x.1.go 3 (rTask c 0 0) F).has (rTask c 0 0) := fun F => (go_has ..).2 h.h
  cases rdy with
  | true =>
    have ho : x.1.old (rTask c 0 0) = 1 := by
      have := h.o
      unfold St.hit at this
      rw [Bool.and_eq_true, beq_iff_eq] at this
      exact this.2
    have e : clmX c x (fraCl a 0) = ((x.1.go 3 (rTask c 0 0) (fun x => if x = 1 then 2 else x), x.2.1.set 0 { x.2.1.getD 0 zrec with st := true }, x.2.2 ++ [⟨if (x.2.1.getD 0 zrec).st = true then 9 else 5, a, 0, 0, 0⟩]), fraCl a 0, ⟨true, 1, 0⟩) := by
      unfold clmX clmS
      simp only [h.o, if_true]
      rfl
    rw [e]
    refine ⟨⟨hg _, ?_, by simpa using h.r, ?_⟩, rfl, ?_⟩
    · unfold St.hit
      rw [go_old _ _ _ _ h.h, ho]
      simp
    · rw [List.getD_eq_getElem?_getD, List.getElem?_set_self h.r]
      simp
    · show x.2.2 ++ [_] = _
      rw [h.s]
      simp
  | false =>
    have ho : x.1.old (rTask c 0 0) ≠ 1 := by
      intro e
      have := h.o
      unfold St.hit at this
      rw [e] at this
      simp [h.h] at this
    have e : clmX c x (fraCl a 0) = ((x.1.go 3 (rTask c 0 0) (fun x => if x = 1 then 2 else x), x.2.1, x.2.2 ++ [⟨15, a, 0, 0, 0⟩]), fraCl a 0, ⟨true, 4, 0⟩) := by
      unfold clmX clmS
      simp only [h.o, Bool.false_eq_true, if_false]
    rw [e]
    refine ⟨⟨hg _, ?_, h.r, h.s⟩, rfl, rfl⟩
    unfold St.hit
    rw [go_old _ _ _ _ h.h, if_neg ho]
    simp [ho]
/-- What the loop keeps. -/
def OnceR (w0 : World) (p m k g cap : Nat) (c : Cfg) (hd : List Value) (rv : Value) (L : Nat) (v5 v6 v7 : Value) (wr : World) : Prop :=
  ∃ (i N n : Nat) (rdy : Bool) (x : St × List Rec × List Ev), v5 = .bool rdy ∧ v6 = .int .i64 n ∧ v7 = .int .i64 i ∧ i ≤ L ∧ n ≤ i ∧ N ≤ 8 * i ∧ ER w0 p m k g cap c hd rv N x wr ∧ OX c x rdy n
theorem ent_alone {w0 w : World} {p m k g cap q N n most : Nat} {c : Cfg} {hd : List Value} {rv : Value} {x s' : St × List Rec × List Ev} {r : Res} (h : ER w0 p m k g cap c hd rv N x w) {a b : Int} (hb : LB w q 72 [.nilIface, .int .i64 b, .int .i64 a, .int .i64 0] (fraEn a b) 0 0) (hq : w0.heap.size ≤ q) (hr : RunX (entX c 0) x (fraEn a b, none) s' r n) (hm : n ≤ most ∧ most ≤ 1000) :
    Calls Tryz.prog 8 #[.pointer (some ⟨p, 0, none⟩), .iface 63 (.pointer (some ⟨q, 0, none⟩)), .int .i64 most] w (RAlone w0 p m k g cap c hd rv N s' r n) := by
  refine (alone_gen (I := TI w0.heap.size p m k g cap 0 0 hd rv c N) (V := VE c w0.heap.size q) (meth_step_entrant q) (ahead_step_entrant q) (meth_result_entrant q) (ahead_result_entrant q) (enters_of Tryz.func59 (by kernel_rfl) rfl)
    (fun j w n s h => h.drewN n) (fun j w s x _ h0 h1 => ent_step h.c hq h0 h1) h.t ⟨hb, fun y hy => (by cases hy), .inl rfl⟩ hr hm.1 hm.2).mono ?_
  rintro e w' ⟨rfl, ht, hb⟩
  exact ⟨rfl, h.done ht hb⟩

set_option maxRecDepth 100000 in
set_option maxHeartbeats 16000000 in
theorem once18_law {W : World} {la : Option Addr} {L : Nat} {lz : List Int} (lc : Nat) (hl : InBytes W la L lz) :
    Calls Tryz.prog 3 #[.slice la L lc] W fun e w' => e = .returned (.bool true) ∧ Below W.heap.size W w' := by
  have hml := hl.2.1
  unfold maxLen at hml
  have HLZ := Lib.hid hl
  clear hl
  by_cases h100 : 100 < L
  · go_enter Tryz.func3, Tryz.ntmps3
    go_wp2
    go_ret
    exact ⟨rfl, Below.refl _ _⟩
  have h101 : decide (100 < (L : Int)) = false := decide_eq_false (by omega)
  have H100 := Lib.hid h100
  clear h100
  have HI := Lib.hid (inB_made W #[.int .u8 3, .int .u8 1] byu (L := 2) rfl rfl (by intro z hz; simp only [List.mem_cons, List.not_mem_nil, or_false] at hz; omega) (by decide))
  have B0 := Lib.hid (below_one W (.cells #[.int .u8 3, .int .u8 1] 5))
  go_enter Tryz.func3, Tryz.ntmps3
  go_wp2_with fail
  (with_reducible refine (config_any HI.out 2).mono ?_)
  rintro e w1 ⟨u, rfl, hcfg, hb1⟩
  obtain ⟨c, hcd⟩ : ∃ c, decC (strm byu) = c := ⟨_, rfl⟩
  have hck := chk_dec (strm byu)
  rw [hcd] at hcfg hck
  have HCK := Lib.hid hck
  obtain ⟨pa, pn, pc, sa, sn, sc, rfl, hl⟩ := hcfg.isCfg
  have HL := Lib.hid hl
  have B1 := Lib.hid (B0.out.trans (hb1.mono B0.out.size))
  clear hcfg hl hb1 HI B0 hck hcd
  go_wp2_with fail
  (with_reducible refine (rnewed_any HL.out _ _ HCK.out).mono ?_)
  rintro e w2 ⟨p, m, k, g, hd, rv, rfl, hE⟩
  have E2 := Lib.hid hE
  have hin := cfgIn_chk HCK.out
  have hT : isT c 0 = true := isT_iff.2 ⟨Int.le_refl _, by have := hin.ta; omega⟩
  have O2 := Lib.hid (show OX c (St.new (rCells c).toNat, newRs c.ta.toNat, []) false 0 from by
    have hd := hin.deques
    have ha := hin.all
    have h5 := hin.ta
    have ej : rTask c 0 0 = rDeques c + rAll c := by
      have e : ixs (rDeques c + rAll c) 0 c.ta 5 = rDeques c + rAll c + 0 * 5 := by unfold ixs; rw [if_neg (by omega)]
      unfold rTask
      rw [e, if_neg (by omega)]
      omega
    refine ⟨⟨by rw [ej]; omega, ?_⟩, by unfold St.hit; rw [new_old]; simp, by simp [newRs]; omega, ?_⟩
    · show rTask c 0 0 < ((List.replicate (rCells c).toNat (0 : Int)).length : Int)
      rw [List.length_replicate, ej]
      unfold rCells
      omega
    · obtain ⟨j, hj⟩ : ∃ j, c.ta.toNat = j + 1 := ⟨c.ta.toNat - 1, by omega⟩
      rw [hj]
      rfl)
  have HIT := Lib.hid (And.intro hin hT)
  clear hE HL hin hT
  generalize (rCells c).toNat = cap at *
  generalize ((St.new cap, newRs c.ta.toNat, []) : St × List Rec × List Ev) = x0 at *
  go_wp2_with fail
  (with_reducible refine (awake18_any _).mono ?_)
  rintro e w3 ⟨rfl, hb3⟩
  have E3 := Lib.hid (E2.out.below hb3)
  have e20 := E3.out.at20
  clear hb3 E2
  have HST := Lib.hid (show OnceR w1 p m k g cap c hd rv L (.bool false) (.int .i64 0) (.int .i64 0) w3 from ⟨0, 0, 0, false, x0, rfl, rfl, rfl, by omega, by omega, by omega, E3.out, O2.out⟩)
  clear E3 O2
  go_wp2_with fail
  clear e20
  go_loopw [5, 6, 7] (fun v5 v6 v7 wr => OnceR w1 p m k g cap c hd rv L v5 v6 v7 wr) (fun _ _ v7 _ => L - (intOf v7).toNat)
  case atStart => exact HST.out
  case round =>
    clear HST
    obtain ⟨i, N, n, rdy, x, rfl, rfl, rfl, hi, hn, hN, hE, hO⟩ := hrel
    have EI := Lib.hid hE
    have OI := Lib.hid hO
    have HI := Lib.hid (And.intro hi (And.intro hn hN))
    clear hE hO hi hn hN
    by_cases hlt : i < L
    · have hlt1 : decide ((i : Int) < (L : Int)) = true := by simp; omega
      have HLT := Lib.hid hlt
      have HBW := Lib.hid (B1.out.trans (EI.out.b.mono B1.out.size))
      obtain ⟨ax, hax, _, hcb, hz0, hz1⟩ := (HLZ.out.below HBW.out).2.2 i hlt
      subst hax
      obtain ⟨b, hb⟩ : ∃ b : Nat, lz.getD i 0 = (b : Int) := ⟨(lz.getD i 0).toNat, by omega⟩
      rw [hb] at hcb hz0 hz1
      have hb255 : b ≤ 255 := by omega
      have HB := Lib.hid hb255
      obtain ⟨ev, ht⟩ := EI.out.t
      obtain ⟨va, vc, hve, _⟩ := ht.1.v.inE
      have hEl : x.2.2.length ≤ 1000 := by
        have h4 := ht.2.2.2.1
        have := HI.out
        have := H100.out
        omega
      have c23 : wr.cell? ⟨p, 23, none⟩ = some (.slice va x.2.2.length vc) := by rw [ht.1.e.at23, hve]
      obtain ⟨E, hE⟩ : ∃ E, x.2.2.length = E := ⟨_, rfl⟩
      rw [hE] at c23 hEl
      have HE := Lib.hid (And.intro hE hEl)
      clear ht hve hE hEl hb hz0 hz1 hlt
      have hb1 : IntKind.i64.wrap (b : Int) = (b : Int) := IntWalk.i64_in _ (by omega)
      have hi0 : (0 : Int) ≤ (i : Int) := by omega
      have hi1 : (i : Int) < (L : Int) := by have := HLT.out; omega
      go_wp2_with fail
      (with_reducible refine (rdraw_any (b : Int) 3 (by decide) _).mono ?_)
      rintro e wx ⟨rfl, rfl⟩
      clear c23
      by_cases hd0 : drw (b : Int) 3 = 0
      · have hd1 : (drw (b : Int) 3 == 0) = true := by simp [hd0]
        clear hd0
        go_wp2_with fail
        generalize (b : Int) / 3 % 4 = a at *
        obtain ⟨s', r, n2, hr, hn2, hs⟩ := enter_run HIT.out.1 HIT.out.2 0 x.1 x.2 a
        have HR := Lib.hid (And.intro hr (And.intro hn2 hs))
        clear hr hn2 hs
        (with_reducible refine (entrant_new a 0 _).mono ?_)
        rintro e u2 ⟨q2, rfl, hv, hbl, hbb⟩
        have hA := ent_alone (most := 20) (x := x) (EI.out.below hbb) hv (Nat.le_trans EI.out.size hbl) HR.out.1 ⟨by have := HR.out.2.1; omega, by decide⟩
        rw [show ((20 : Nat) : Int) = 20 from rfl] at hA
        have HA := Lib.hid hA
        clear hA hv hbl hbb
        go_wp2_with fail
        (with_reducible refine HA.out.mono ?_)
        rintro e u3 ⟨rfl, hE⟩
        have E3 := Lib.hid hE
        have O3 := Lib.hid (OI.out.enter (HR.out.2.2 OI.out.h))
        clear hE HA
        have ei : wrap64 ((i : Int) + 1) = ((i + 1 : Nat) : Int) := by have := H100.out; have := HLT.out; unfold wrap64; omega
        go_wp2_with fail
        go_roundw
        case rel => exact ⟨i + 1, N + n2, n, true, _, rfl, rfl, by go_num, by have := HLT.out; omega, by have := HI.out; omega, by have := HI.out; have := HR.out.2.1; omega, E3.out, O3.out⟩
        case measure => simp only [intOf]; have := HLT.out; omega
      · have hd1 : (drw (b : Int) 3 == 0) = false := by simp [hd0]
        clear hd0
        go_wp2_with fail
        generalize (b : Int) / 3 % 4 = a at *
        (with_reducible refine (claimer_new a 0 _).mono ?_)
        rintro e u2 ⟨q2, rfl, hv, hbl, hbb⟩
        obtain ⟨k1, k2, k3⟩ := OI.out.claim a
        have hA := clm_alone (most := 5) (x := x) (EI.out.below hbb) hv (Nat.le_trans EI.out.size hbl) (by have := HI.out; have := H100.out; omega) (by decide)
        rw [show ((5 : Nat) : Int) = 5 from rfl, k2] at hA
        obtain ⟨y, hy⟩ : ∃ y, (clmX c x (fraCl a 0)).1 = y := ⟨_, rfl⟩
        rw [hy] at hA k1 k3
        have HA := Lib.hid hA
        have O3 := Lib.hid k1
        have V3 := Lib.hid k3
        clear hA hv hbl hbb k1 k2 k3 hy EI OI
        have ei : wrap64 ((i : Int) + 1) = ((i + 1 : Nat) : Int) := by have := H100.out; have := HLT.out; unfold wrap64; omega
        have en : wrap64 ((n : Int) + 1) = ((n + 1 : Nat) : Int) := by have := H100.out; have := HLT.out; have := HI.out; unfold wrap64; omega
        have eE : wrap64 ((E : Int) + 1) = ((E + 1 : Nat) : Int) := by have := HE.out; unfold wrap64; omega
        have fin : ∀ (kd : Int) (w' : World), y.2.2 = x.2.2 ++ [⟨kd, a, 0, 0, 0⟩] → ER w1 p m k g cap c hd rv (N + 1) y w' → ∃ (xx : Addr) (vc : Nat), w'.cell? ⟨p, 23, none⟩ = some (.slice (some xx) (E + 1) vc) ∧
            w'.cell? (xx.add (E * 5)) = some (.int .i64 kd) ∧ w'.cell? ⟨(xx.add (E * 5)).block, (xx.add (E * 5)).off + 1, none⟩ = some (.int .i64 a) ∧ w'.cell? ⟨(xx.add (E * 5)).block, (xx.add (E * 5)).off + 2, none⟩ = some (.int .i64 0) ∧
            w'.cell? ⟨(xx.add (E * 5)).block, (xx.add (E * 5)).off + 3, none⟩ = some (.int .i64 0) ∧ w'.cell? ⟨(xx.add (E * 5)).block, (xx.add (E * 5)).off + 4, none⟩ = some (.int .i64 0) := by
          intro kd w' hy hE
          obtain ⟨ev, ht⟩ := hE.t
          obtain ⟨va, vc, hve, hin⟩ := ht.1.v.inE
          have hl : y.2.2.length = E + 1 := by rw [hy, List.length_append, HE.out.1]; rfl
          obtain ⟨xx, rfl, y0, y1, y2, y3, y4⟩ := hin.at_ (i := E) (e := ⟨kd, a, 0, 0, 0⟩) (by rw [hy, List.getElem?_append_right (by rw [HE.out.1]; omega), HE.out.1, Nat.sub_self]; rfl)
          exact ⟨xx, vc, by rw [ht.1.e.at23, hve, hl], y0, y1, y2, y3, y4⟩
        have FN := Lib.hid fin
        clear fin
        have hE0 : (0 : Int) ≤ (E : Int) := by omega
        have hE1 : (E : Int) < ((E + 1 : Nat) : Int) := by omega
        have hn1 : (((E + 1 : Nat) : Int) != (E : Int) + 1) = false := by simp
        have hn2 : ((E : Int) + 1 != (E : Int) + 1) = false := by simp
        cases rdy with
        | true =>
          have HA2 := HA.out
          simp only [if_true] at HA2
          have HA3 := Lib.hid HA2
          clear HA2 HA
          go_wp2_with fail
          (with_reducible refine HA3.out.mono ?_)
          rintro e u3 ⟨rfl, hE⟩
          have E3 := Lib.hid hE
          clear hE HA3
          by_cases hn0 : 0 < n
          · have hn3 : decide ((0 : Int) < (n : Int)) = true := by simp; omega
            obtain ⟨xx, vc, c23, y0, y1, y2, y3, y4⟩ := FN.out 9 u3 (by rw [V3.out]; simp [hn0]) E3.out
            have hq := fun (W : World) => ev_ne ⟨9, a, 0, 0, 0⟩ ⟨9, a, 0, 0, 0⟩ W
            rw [decide_eq_true rfl] at hq
            go_wp2_with fail
            go_roundw
            case rel => exact ⟨i + 1, N + 1, n + 1, false, _, rfl, by go_num, by go_num, by have := HLT.out; omega, by have := HI.out; omega, by have := HI.out; omega, E3.out, O3.out⟩
            case measure => simp only [intOf]; have := HLT.out; omega
          · have hn3 : decide ((0 : Int) < (n : Int)) = false := by simp; omega
            obtain ⟨xx, vc, c23, y0, y1, y2, y3, y4⟩ := FN.out 5 u3 (by rw [V3.out]; simp [hn0]) E3.out
            have hq := fun (W : World) => ev_ne ⟨5, a, 0, 0, 0⟩ ⟨5, a, 0, 0, 0⟩ W
            rw [decide_eq_true rfl] at hq
            go_wp2_with fail
            go_roundw
            case rel => exact ⟨i + 1, N + 1, n + 1, false, _, rfl, by go_num, by go_num, by have := HLT.out; omega, by have := HI.out; omega, by have := HI.out; omega, E3.out, O3.out⟩
            case measure => simp only [intOf]; have := HLT.out; omega
        | false =>
          have HA2 := HA.out
          simp only [Bool.false_eq_true, if_false] at HA2
          have HA3 := Lib.hid HA2
          clear HA2 HA
          go_wp2_with fail
          (with_reducible refine HA3.out.mono ?_)
          rintro e u3 ⟨rfl, hE⟩
          have E3 := Lib.hid hE
          clear hE HA3
          obtain ⟨xx, vc, c23, y0, y1, y2, y3, y4⟩ := FN.out 15 u3 (by rw [V3.out]; simp) E3.out
          have hq := fun (W : World) => ev_ne ⟨15, a, 0, 0, 0⟩ ⟨15, a, 0, 0, 0⟩ W
          rw [decide_eq_true rfl] at hq
          go_wp2_with fail
          go_roundw
          case rel => exact ⟨i + 1, N + 1, n, false, _, rfl, rfl, by go_num, by have := HLT.out; omega, by have := HI.out; omega, by have := HI.out; omega, E3.out, O3.out⟩
          case measure => simp only [intOf]; have := HLT.out; omega
    · have hlt1 : decide ((i : Int) < (L : Int)) = false := by simp; omega
      have hlt2 : decide (i < L) = false := by simp; omega
      have hlt3 : (L : Int) ≤ (i : Int) := by omega
      clear hlt
      obtain ⟨ev, ht⟩ := EI.out.t
      obtain ⟨xx, cc, kk, hv, hx, _, _, hat, _⟩ := ht.1.r.at_ OI.out.r
      obtain ⟨xb, xo, xs⟩ := xx
      obtain ⟨hx1, hx2⟩ := hx
      replace hx1 : xo = 0 := hx1
      replace hx2 : xs = none := hx2
      subst hx1 hx2
      have c22 : wr.cell? ⟨p, 22, none⟩ = some (.slice (some ⟨xb, 0, none⟩) x.2.1.length cc) := by rw [ht.1.e.at22, hv]
      have c6 : wr.cell? ⟨xb, 6, none⟩ = some (.bool (decide (0 < n))) := by rw [← OI.out.s]; exact hat 6 (by omega)
      have hr0 : decide ((0 : Int) < (x.2.1.length : Int)) = true := by have := OI.out.r; simp; omega
      have hr1 : (0 : Int) < (x.2.1.length : Int) := by have := OI.out.r; omega
      have HBW := Lib.hid (B1.out.trans (EI.out.b.mono B1.out.size))
      clear ht hv hat
      generalize x.2.1.length = rl at *
      by_cases hn0 : 0 < n
      · have hn1 : decide ((0 : Int) < (n : Int)) = true := by simp; omega
        have hn2 : decide (0 < n) = true := by simp; omega
        rw [hn2] at c6
        clear hn2
        go_wp2
        go_ret
        exact ⟨rfl, HBW.out⟩
      · have hn1 : decide ((0 : Int) < (n : Int)) = false := by simp; omega
        have hn2 : decide (0 < n) = false := by simp; omega
        rw [hn2] at c6
        clear hn2
        go_wp2
        go_ret
        exact ⟨rfl, HBW.out⟩
end Go.Proofs.YtgipddeldddbnaaGreat
