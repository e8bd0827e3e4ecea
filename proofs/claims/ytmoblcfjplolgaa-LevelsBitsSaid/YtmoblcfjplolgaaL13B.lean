/-
  The walk of the statement LevelsBits: it returns true.
-/
import Derived.Test.YtmoblcfjplolgaaMgBT
import Derived.Test.YtmoblcfjplolgaaMgBR
import Derived.Test.YtmoblcfjplolgaaMgBX
import Derived.Deep.RegionHeld3
import Derived.Deep.Cut
import Derived.Deep.CutRange
import Derived.LoopTactic
namespace Go.Proofs.Ytmoblcfjplolgaa
open Go Go.RowKit Go.Shelf
set_option linter.unusedSimpArgs false
set_option linter.unusedVariables false

/-- The environment, its configuration's block, a worker's deques. -/
structure BV (w0 : World) (p m k g cap : Nat) (c : Cfg) (hd : List Value) (rv : Value) (cb : Nat) (pa : Option Addr) (pn pc : Nat) (sa : Option Addr) (sn sc : Nat) (n kk : Nat) (s : St) (T : Nat → Nat) (ls : Nat → List Int) (B : Nat) (w : World) : Prop where
  e : EW w0 p m k g cap c hd rv (.slice none 0 0) s w
  x : Blk w cb 30 (cc c pa pn pc sa sn sc)
  v : LvI c n kk 7 8 s T ls B
  lo : w0.heap.size ≤ cb
section
variable {w0 w w' : World} {p m k g cap : Nat} {c : Cfg} {hd : List Value} {rv : Value} {cb : Nat} {pa : Option Addr} {pn pc : Nat} {sa : Option Addr} {sn sc n kk : Nat} {s s' : St} {T T' : Nat → Nat} {ls ls' : Nat → List Int} {B B' : Nat}
theorem BV.below (h : BV w0 p m k g cap c hd rv cb pa pn pc sa sn sc n kk s T ls B w) (hb : Below w.heap.size w w') : BV w0 p m k g cap c hd rv cb pa pn pc sa sn sc n kk s T ls B w' := ⟨h.e.below hb, h.x.below hb, h.v, h.lo⟩
theorem BV.done (h : BV w0 p m k g cap c hd rv cb pa pn pc sa sn sc n kk s T ls B w) {b : Nat} (hb : w0.heap.size ≤ b) (hne : cb ≠ b) (hp : PE w' p m k g cap s' 0 0 hd rv (.slice none 0 0)) (hf : Fr [m, g, b] w w') (hv : LvI c n kk 7 8 s' T' ls' B') : BV w0 p m k g cap c hd rv cb pa pn pc sa sn sc n kk s' T' ls' B' w' := by
  refine ⟨h.e.done hb hp hf hv.u, h.x.of_same (hf.block cb h.x.lt ?_), hv, h.lo⟩
  obtain ⟨cur, hg, _⟩ := h.e.e.mem.row.blk
  simp only [List.mem_cons, List.not_mem_nil, or_false, not_or]
  exact ⟨h.x.apart h.e.e.mem.blk (by decide), h.x.apart hg (by decide), hne⟩
end
/-- What the loop keeps. -/
def BitsR (w : World) (p m k g cap : Nat) (c : Cfg) (hd : List Value) (rv : Value) (cb : Nat) (pa : Option Addr) (pn pc : Nat) (sa : Option Addr) (sn sc n L : Nat) (i : Value) (wr : World) : Prop :=
  ∃ (j : Nat) (s : St) (T : Nat → Nat) (ls : Nat → List Int), j ≤ L ∧ i = .int .i64 j ∧ BV w p m k g cap c hd rv cb pa pn pc sa sn sc n 3 s T ls j wr

set_option maxRecDepth 100000 in
set_option maxHeartbeats 16000000 in
theorem bits13_law {w : World} {la : Option Addr} {L : Nat} {lz : List Int} (n0 : Int) (lc : Nat) (hn0 : 0 ≤ n0 ∧ n0 ≤ 255) (hl : InInts w la L lz ∧ ∀ x, x ∈ lz → -9223372036854775808 ≤ x ∧ x ≤ 9223372036854775807) :
    Calls Try.prog 4 #[.int .u8 n0, .slice la L lc] w fun e w' => e = .returned (.bool true) ∧ Below w.heap.size w w' := by
  have hml := hl.1.2.1
  unfold maxLen at hml
  have HL := Lib.hid hl
  clear hl
  by_cases h80 : 80 < L
  · go_enter Try.func4, Try.ntmps4
    go_wp2
    go_ret
    exact ⟨rfl, Below.refl _ _⟩
  have h81 : decide (80 < (L : Int)) = false := decide_eq_false (by omega)
  obtain ⟨n, hn, hn2⟩ : ∃ n : Nat, 1 + n0 % 5 = (n : Int) ∧ (1 ≤ n ∧ n ≤ 5) := ⟨(1 + n0 % 5).toNat, by omega, by omega⟩
  have HN := Lib.hid hn2
  have htwo := two_any n 3 w
  rw [show ((3 : Nat) : Int) = 3 from rfl] at htwo
  have HT := Lib.hid htwo
  clear htwo
  go_enter Try.func4, Try.ntmps4
  go_wp2_with fail
  (with_reducible refine HT.out.mono ?_)
  rintro e w1 ⟨pa, pn, pc, sa, sn, sc, rfl, hl, hb1⟩
  have hck : chk (twoC n 3) = 0 := two_chk HN.out ⟨by decide, by decide⟩
  have HLV := Lib.hid (two_lv (n := n) (k := 3) ⟨HN.out.1, by have := HN.out.2; omega⟩ ⟨by decide, by decide⟩)
  have HNW := Lib.hid (two_new (n := n) (k := 3) ⟨HN.out.1, by have := HN.out.2; omega⟩ ⟨by decide, by decide⟩)
  obtain ⟨c, hcc⟩ : ∃ c, twoC n 3 = c := ⟨_, rfl⟩
  rw [hcc] at hl hck HLV HNW ⊢
  have HCK := Lib.hid hck
  have H1 := Lib.hid (hl.alloc (.cells (cc c pa pn pc sa sn sc) 30))
  have X1 := Lib.hid (Blk.made w1 30 (cc c pa pn pc sa sn sc))
  have B1 := Lib.hid (hb1.alloc hb1.size (.cells (cc c pa pn pc sa sn sc) 30))
  have HLO := Lib.hid hb1.size
  clear hl hb1 HT hck hcc hn hn2
  go_wp2_with fail
  generalize w1.alloc (.cells (cc c pa pn pc sa sn sc) 30) = W at *
  generalize w1.heap.size = q at *
  (with_reducible refine (enew_any H1.out _ _ HCK.out).mono ?_)
  rintro e w2 ⟨p, m, k, g, hd, rv, rfl, hE⟩
  have V2 := Lib.hid (show BV w p m k g _ c hd rv q pa pn pc sa sn sc n 3 _ (fun _ => 0) (fun _ => []) 0 w2 from ⟨⟨hE.e, hE.l, hE.i, hE.u, B1.out.trans (hE.b.mono B1.out.size), by have := hE.lo; have := B1.out.size; omega⟩, X1.out.below hE.b, HNW.out, HLO.out⟩)
  clear hE X1 B1 H1 HNW HLO HCK
  go_wp2_with fail
  (with_reducible refine (awake13_any _).mono ?_)
  rintro e w3 ⟨rfl, hb⟩
  have V3 := Lib.hid (V2.out.below hb)
  have e20 := V3.out.e.e.at20
  clear hb V2
  generalize (rCells c).toNat = cap at *
  generalize St.new cap = s0 at *
  go_wp2_with fail
  clear e20
  go_loopw [9] (fun i wr => BitsR w p m k g cap c hd rv q pa pn pc sa sn sc n L i wr) (fun i _ => L - (intOf i).toNat)
  case atStart => exact ⟨0, s0, _, _, by omega, rfl, V3.out⟩
  case round =>
    clear V3
    obtain ⟨j, s, T, ls, hj, rfl, hV⟩ := hrel
    have V := Lib.hid hV
    clear hV
    by_cases hlt : j < L
    case neg =>
      obtain rfl : j = L := by omega
      go_wp2
      go_ret
      exact ⟨rfl, V.out.e.b⟩
    obtain ⟨x0, rfl, hx0, hc0⟩ := (HL.out.1.below V.out.e.b).2.2 j hlt
    obtain ⟨z, hz⟩ : ∃ z, lz.getD j 0 = z := ⟨_, rfl⟩
    have hzr : -9223372036854775808 ≤ z ∧ z ≤ 9223372036854775807 := by
      rw [← hz, List.getD_eq_getElem?_getD, List.getElem?_eq_getElem (by rw [HL.out.1.1]; exact hlt)]
      exact HL.out.2 _ (List.getElem_mem _)
    rw [hz] at hc0
    have HZ := Lib.hid (And.intro hz hzr)
    clear hz hx0
    go_upto_if 56 with fail
    go_cut [] from 56 to 85 (fun wx => ∃ s' T' ls', BV w p m k g cap c hd rv q pa pn pc sa sn sc n 3 s' T' ls' (j + 1) wx)
    case first =>
      have hj0 : (0 : Int) ≤ (j : Int) := by omega
      have hj1 : (j : Int) < (L : Int) := by omega
      have HJB := Lib.hid (show j ≤ 80 by omega)
      by_cases hpos : 0 < z
      · go_upto_region 12 with fail
        have hn0 : ¬ (n : Int) = 0 := by have := HN.out; omega
        obtain ⟨a, ha, han⟩ : ∃ a : Nat, z % (n : Int) = (a : Int) ∧ a < n := ⟨(z % (n : Int)).toNat, by have := Int.emod_nonneg z hn0; omega, by have := Int.emod_nonneg z hn0; have := Int.emod_lt_of_pos z (show (0 : Int) < n by omega); omega⟩
        have hrun : ∃ s' r N ls', RunM (lvS c) s (fraLP 0 a j, none) s' r N ∧ N ≤ 30 ∧ LvI c n 3 7 8 s' T ls' (j + 1) := by
          by_cases hfull : (ls a).length = 3
          · obtain ⟨s', h1, h2⟩ := V.out.v.full HLV.out han hfull j
            exact ⟨s', _, 2, ls, h1, by omega, h2.more (by omega)⟩
          · obtain ⟨s', h1, h2⟩ := V.out.v.push HLV.out han (by have := (V.out.v.dq a han).cap; omega) (by have := HJB.out; omega) j
            exact ⟨s', _, 5, _, h1, by omega, h2⟩
        obtain ⟨s', r, N, ls', hr, hN, hv'⟩ := hrun
        have HRR := Lib.hid (And.intro hr (And.intro hN hv'))
        have HA0 := Lib.hid ha
        clear hr hN hv' han
        go_wp2_with fail
        rw [HA0.out]
        (with_reducible refine (lvPush_any 0 a j _).mono ?_)
        rintro e w4 ⟨b4, rfl, hv, hbl, hb⟩
        have V4 := Lib.hid (V.out.below hb)
        have hne : q ≠ b4 := by have := V.out.x.lt; omega
        have hA := alone_lvpusher (most := 30) V4.out.e.e V4.out.e.l V4.out.e.i hv V4.out.e.u (xu_new ⟨uw_zero, uw_zero, uw_zero, uw_zero⟩) HRR.out.1 (by have := HRR.out.2.1; have := HN.out; omega) (by decide)
        rw [show ((30 : Nat) : Int) = 30 from rfl] at hA
        have HA := Lib.hid hA
        have HBL := Lib.hid (And.intro (Nat.le_trans V.out.e.b.size hbl) hne)
        clear hA hv hbl hb hne
        go_wp2_with fail
        (with_reducible refine HA.out.mono ?_)
        rintro e w5 ⟨rfl, hp, hf⟩
        have V6 := Lib.hid (V4.out.done HBL.out.1 HBL.out.2 hp hf HRR.out.2.2)
        clear hp hf V4 V HA HBL hc0 ha
        go_wp2_with fail
        go_meet
        case rel => exact ⟨s', T, ls', V6.out⟩
      · have hz0 : decide (0 < z) = false := decide_eq_false hpos
        obtain ⟨s', r, N, hr, hN, hpp⟩ := LvI.pop HLV.out (by have := HJB.out; omega) n s (fraLQ 0) (Nat.le_refl n) V.out.v (fun x hx a ha => by
          obtain ⟨y, e1, _, _, e4⟩ := V.out.v.bm
          have : y = x := by have := e1.symm.trans hx; omega
          subst this
          exact e4 a ha) rfl rfl rfl
        have HRR := Lib.hid (And.intro hr hN)
        have HPP := Lib.hid hpp
        clear hr hN hpp
        go_wp2_with fail
        (with_reducible refine (lvPop_any 0 _).mono ?_)
        rintro e w4 ⟨b4, rfl, hv, hbl, hb⟩
        have V4 := Lib.hid (V.out.below hb)
        have hne : q ≠ b4 := by have := V.out.x.lt; omega
        have hA := alone_lvpopper (most := 200) V4.out.e.e V4.out.e.l V4.out.e.i hv V4.out.e.u (xu_new ⟨uw_zero, uw_zero, uw_zero, uw_zero⟩) HRR.out.1 (by have := HRR.out.2; have := HN.out; omega) (by decide)
        rw [show ((200 : Nat) : Int) = 200 from rfl] at hA
        have HA := Lib.hid hA
        have HBL := Lib.hid (And.intro (Nat.le_trans V.out.e.b.size hbl) hne)
        clear hA hv hbl hb hne
        go_wp2_with fail
        (with_reducible refine HA.out.mono ?_)
        rintro e w5 ⟨rfl, hp, hf⟩
        have hpp := HPP.out
        clear HPP
        rcases hpp with ⟨rfl, hall, hold, hv'⟩ | ⟨a, l, u, t', han, hlu, hbel, rfl, hv'⟩
        · have V6 := Lib.hid (V4.out.done HBL.out.1 HBL.out.2 hp hf (hv'.more (Nat.le_succ j)))
          have HOLD := Lib.hid (show s'.old (rBitmap c 0) = 0 by rw [HLV.out.b]; exact hold)
          clear hp hf V4 V HA HBL hc0 hv' hall hold
          go_upto_region 14 with fail
          have V7 := Lib.hid (V6.out.below (below_drew (Below.refl _ _)))
          clear V6
          have dx := V7.out.x
          have d0 := V7.out.e.e.at20
          obtain ⟨d1, d2, d3, d4, d5, d6, d7, d8, d9, d10, d11⟩ := eleven dx
          clear dx
          go_region_held3 (fun w' => w'.cell? ⟨p, 20, none⟩ = some (.pointer (some ⟨m, 0, none⟩)) ∧ w'.cell? ⟨q, 0, none⟩ = some (.int .i64 c.wo) ∧ w'.cell? ⟨q, 1, none⟩ = some (.int .i64 c.le) ∧ w'.cell? ⟨q, 2, none⟩ = some (.int .i64 c.cl) ∧ w'.cell? ⟨q, 3, none⟩ = some (.int .i64 c.ta) ∧ w'.cell? ⟨q, 4, none⟩ = some (.int .i64 c.de) ∧ w'.cell? ⟨q, 5, none⟩ = some (.int .i64 c.he) ∧ w'.cell? ⟨q, 6, none⟩ = some (.int .i64 c.ba) ∧ w'.cell? ⟨q, 7, none⟩ = some (.int .i64 c.ag) ∧ w'.cell? ⟨q, 8, none⟩ = some (.int .i64 c.pa) ∧ w'.cell? ⟨q, 9, none⟩ = some (.slice pa pn pc) ∧ w'.cell? ⟨q, 10, none⟩ = some (.slice sa sn sc)) ((first | exact ⟨u0, u1, u2, u3, u4, u5, u6, u7, u8, u9, u10, u11⟩ | exact ⟨v0, v1, v2, v3, v4, v5, v6, v7, v8, v9, v10, v11⟩ | exact ⟨d0, d1, d2, d3, d4, d5, d6, d7, d8, d9, d10, d11⟩ | go_keep))
            (first
             | (go_at_call 13
                refine (bitmap_any V7.out.e.i 0).mono ?_
                rintro e w6 ⟨rfl, hb6⟩
                have V8 := Lib.hid (V7.out.below hb6)
                have vx := V8.out.x
                have v0 := V8.out.e.e.at20
                obtain ⟨v1, v2, v3, v4, v5, v6, v7, v8, v9, v10, v11⟩ := eleven vx
                clear vx
                clear hb6)
             | (go_at_call 12
                have hk := peek_any V8.out.e.e.mem (rBitmap c 0)
                rw [HOLD.out] at hk
                refine hk.mono ?_
                rintro e w7 ⟨rfl, rfl⟩
                have ux := V8.out.x
                have u0 := V8.out.e.e.at20
                obtain ⟨u1, u2, u3, u4, u5, u6, u7, u8, u9, u10, u11⟩ := eleven ux
                clear ux
                clear hk))
          clear v0 v1 v2 v3 v4 v5 v6 v7 v8 v9 v10 v11 u0 u1 u2 u3 u4 u5 u6 u7 u8 u9 u10 u11
          go_wp2_with fail
          go_meet
          case rel => exact ⟨s', T, ls, V8.out⟩
        · have V6 := Lib.hid (V4.out.done HBL.out.1 HBL.out.2 hp hf (hv'.more (Nat.le_succ j)))
          clear hp hf V4 V HA HBL hc0 hv' hbel hlu
          have h12 : ((1 : Int) == 2) = false := by decide
          go_upto_region 14 with fail
          go_quiet (fail)
          have V7 := Lib.hid (V6.out.below (below_drewN _ nq))
          clear V6
          go_wp2_with fail
          go_meet
          case rel => exact ⟨s', _, _, V7.out⟩
    case rest =>
    obtain ⟨s1, T1, ls1, hV⟩ := hcut
    have V1 := Lib.hid hV
    have HJL := Lib.hid (And.intro hlt (show j ≤ 80 by omega))
    clear hV V hc0 HZ
    go_wp2_with fail
    go_loopw [13] (fun i wr => ∃ b : Nat, b ≤ n ∧ i = .int .i64 b ∧ BV w p m k g cap c hd rv q pa pn pc sa sn sc n 3 s1 T1 ls1 (j + 1) wr) (fun i _ => n - (intOf i).toNat)
    case atStart => exact ⟨0, Nat.zero_le _, rfl, V1.out⟩
    case round =>
      clear V1
      obtain ⟨b, hbn, rfl, hV⟩ := hrel
      have V := Lib.hid hV
      clear hV
      by_cases hb : b < n
      case neg =>
        obtain rfl : b = n := by omega
        go_wp2_with fail
        go_roundw
        case rel => exact ⟨j + 1, s1, T1, ls1, by omega, by go_num, V.out⟩
        case measure => simp only [intOf]; omega
      have hb1 : (b : Int) < (n : Int) := by omega
      have hn5 : n ≤ 5 := HN.out.2
      have HDA := Lib.hid (V.out.v.dq b hb)
      have HTL := Lib.hid (V.out.v.bd b hb)
      have HB := Lib.hid hb
      obtain ⟨x, hx1, hx2, hx3, hx4⟩ := V.out.v.bm
      have HX := Lib.hid (And.intro hx1 (And.intro hx2 (hx3 b hb)))
      clear hx1 hx2 hx3 hx4
      go_upto_region 19 with fail
      have hqq := queue_any (pa := pa) (pn := pn) (pc := pc) (sa := sa) (sn := sn) (sc := sc) (w := wr) V.out.e.i 0 b
      rw [HLV.out.q b hb] at hqq
      obtain ⟨t0, ht0⟩ : ∃ t0 : Int, ((8 + b * (2 + 3) : Nat) : Int) = t0 := ⟨_, rfl⟩
      obtain ⟨t1, ht1⟩ : ∃ t1 : Int, ((8 + b * (2 + 3) + 1 : Nat) : Int) = t1 := ⟨_, rfl⟩
      obtain ⟨t2, ht2⟩ : ∃ t2 : Int, ((8 + b * (2 + 3) + 2 : Nat) : Int) = t2 := ⟨_, rfl⟩
      rw [ht0, ht1, ht2, show ((3 : Nat) : Int) = 3 from rfl] at hqq
      have HQ := Lib.hid hqq
      have HT := Lib.hid (And.intro ht0 ht1)
      clear ht0 ht1 ht2
      clear hqq
      have dx := V.out.x
      have d0 := V.out.e.e.at20
      obtain ⟨d1, d2, d3, d4, d5, d6, d7, d8, d9, d10, d11⟩ := eleven dx
      clear dx
      go_wp2_with fail
      (with_reducible refine HQ.out.mono ?_)
      rintro e w4 ⟨rfl, hb4⟩
      have V4 := Lib.hid ((V.out.below hb4).below (below_one w4 (.cells (qcells t0 t1 t2 3) 53)))
      have Q4 := Lib.hid (Blk.made w4 53 (qcells t0 t1 t2 3))
      clear hb4 V HQ d0 d1 d2 d3 d4 d5 d6 d7 d8 d9 d10 d11
      go_upto_region 20 with fail
      generalize w4.alloc (.cells (qcells t0 t1 t2 3) 53) = W5 at *
      generalize w4.heap.size = qb at *
      have hsz : sizeI (s1.old t1) (s1.old t0) = ((ls1 b).length : Int) := by
        rw [← HT.out.1, ← HT.out.2]
        have h1 := HDA.out.cap
        have h2 := HTL.out
        have h3 := HJL.out.2
        rw [HDA.out.bot, HDA.out.top, size_of (by omega) (by omega)]
        omega
      have KZ := Lib.hid (show ∀ u : World, Calls Try.prog 15 #[.int .u64 (s1.old t1), .int .u64 (s1.old t0)] u (fun e w' => e = .returned (.int .i64 ((ls1 b).length : Int)) ∧ u = w') from fun u => hsz ▸ size_any _ _ u)
      obtain ⟨M, hM⟩ : ∃ M, (ls1 b).length = M := ⟨_, rfl⟩
      rw [hM] at KZ
      have HM := Lib.hid hM
      have HBM := Lib.hid HLV.out.b
      clear hsz hM
      by_cases hM0 : M = 0
      · subst hM0
        rw [show ((0 : Nat) : Int) = 0 from rfl] at KZ
        have h00 : decide ((0 : Int) < 0) = false := by decide
        have hq1 := fun (i : Nat) => (peek_any (V4.out.e.e.mem.drewN i) t1).mono (fun e w' (h : e = .returned (.int .u64 (s1.old t1)) ∧ _ = w') => (⟨h.1, h.2.symm⟩ : e = .returned (.int .u64 (s1.old t1)) ∧ w' = _))
        have hq0 := fun (i : Nat) => (peek_any (V4.out.e.e.mem.drewN i) t0).mono (fun e w' (h : e = .returned (.int .u64 (s1.old t0)) ∧ _ = w') => (⟨h.1, h.2.symm⟩ : e = .returned (.int .u64 (s1.old t0)) ∧ w' = _))
        have hqz := fun (i : Nat) => (KZ.out (W5.drewN i)).mono (fun e w' (h : e = .returned (.int .i64 0) ∧ _ = w') => (⟨h.1, h.2.symm⟩ : e = .returned (.int .i64 0) ∧ w' = _))
        have d0 := V4.out.e.e.at20
        have d12 : W5.cell? ⟨qb, 0, none⟩ = some (.int .i64 t0) := Q4.out.at_ 0
        have d13 : W5.cell? ⟨qb, 1, none⟩ = some (.int .i64 t1) := Q4.out.at_ 1
        go_quiet (first
          | (go_at_call 12; first | (with_reducible exact Calls.quiet_of_same (hq1 _)) | (with_reducible exact Calls.quiet_of_same (hq0 _)))
          | (go_at_call 15; (with_reducible exact Calls.quiet_of_same (hqz _))))
        have V5 := Lib.hid (V4.out.below (below_drewN _ nq))
        clear hq1 hq0 hqz d0 d12 d13 V4 Q4 h00
        go_wp2_with fail
        go_roundw
        case rel => exact ⟨b + 1, by have := HB.out; omega, by go_num, V5.out⟩
        case measure => simp only [intOf]; have := HB.out; omega
      · have hMp : (0 : Int) < (M : Int) := by omega
        have hMd : decide ((0 : Int) < (M : Int)) = true := decide_eq_true hMp
        have hMe : decide (0 < M) = true := decide_eq_true (by omega)
        have V5 := Lib.hid (V4.out.below (below_drew (Below.refl _ _)))
        have Q5 := Lib.hid (show Blk W5.drew qb 53 (qcells t0 t1 t2 3) from Q4.out)
        clear V4 Q4
        have dx := V5.out.x
        have d0 := V5.out.e.e.at20
        obtain ⟨d1, d2, d3, d4, d5, d6, d7, d8, d9, d10, d11⟩ := eleven dx
        clear dx
        have d12 : W5.drew.cell? ⟨qb, 0, none⟩ = some (.int .i64 t0) := Q5.out.at_ 0
        have d13 : W5.drew.cell? ⟨qb, 1, none⟩ = some (.int .i64 t1) := Q5.out.at_ 1
        have hbit : bitB x b = true := HX.out.2.2 (fun e => by have := HM.out; rw [e] at this; simp at this; omega)
        have KB := Lib.hid (show ∀ u : World, Calls Try.prog 16 #[.int .u64 (s1.old (rBitmap c 0)), .int .i64 (b : Int)] u (fun e w' => e = .returned (.bool true) ∧ u = w') from fun u => by
          have hk := bit_any x b HX.out.2.1 (by have := HB.out; have := HN.out; omega) u
          rw [hbit] at hk
          rw [HBM.out, HX.out.1]
          exact hk)
        clear hbit
        go_region_held3 (fun w' => w'.cell? ⟨p, 20, none⟩ = some (.pointer (some ⟨m, 0, none⟩)) ∧ w'.cell? ⟨q, 0, none⟩ = some (.int .i64 c.wo) ∧ w'.cell? ⟨q, 1, none⟩ = some (.int .i64 c.le) ∧ w'.cell? ⟨q, 2, none⟩ = some (.int .i64 c.cl) ∧ w'.cell? ⟨q, 3, none⟩ = some (.int .i64 c.ta) ∧ w'.cell? ⟨q, 4, none⟩ = some (.int .i64 c.de) ∧ w'.cell? ⟨q, 5, none⟩ = some (.int .i64 c.he) ∧ w'.cell? ⟨q, 6, none⟩ = some (.int .i64 c.ba) ∧ w'.cell? ⟨q, 7, none⟩ = some (.int .i64 c.ag) ∧ w'.cell? ⟨q, 8, none⟩ = some (.int .i64 c.pa) ∧ w'.cell? ⟨q, 9, none⟩ = some (.slice pa pn pc) ∧ w'.cell? ⟨q, 10, none⟩ = some (.slice sa sn sc) ∧ w'.cell? ⟨qb, 0, none⟩ = some (.int .i64 t0) ∧ w'.cell? ⟨qb, 1, none⟩ = some (.int .i64 t1)) ((first | exact ⟨u0, u1, u2, u3, u4, u5, u6, u7, u8, u9, u10, u11, u12, u13⟩ | exact ⟨d0, d1, d2, d3, d4, d5, d6, d7, d8, d9, d10, d11, d12, d13⟩ | go_keep))
          (first
           | (go_at_call 12
              refine (peek_any V5.out.e.e.mem _).mono ?_
              rintro e u ⟨rfl, rfl⟩)
           | (go_at_call 15
              refine (KZ.out _).mono ?_
              rintro e u ⟨rfl, rfl⟩)
           | (go_at_call 13
              refine (bitmap_any V5.out.e.i 0).mono ?_
              rintro e w6 ⟨rfl, hb6⟩
              have V6 := Lib.hid (V5.out.below hb6)
              have Q6 := Lib.hid (Q5.out.below hb6)
              have ux := V6.out.x
              have u0 := V6.out.e.e.at20
              obtain ⟨u1, u2, u3, u4, u5, u6, u7, u8, u9, u10, u11⟩ := eleven ux
              clear ux
              have u12 : w6.cell? ⟨qb, 0, none⟩ = some (.int .i64 t0) := Q6.out.at_ 0
              have u13 : w6.cell? ⟨qb, 1, none⟩ = some (.int .i64 t1) := Q6.out.at_ 1
              clear hb6)
           | (go_at_call 12
              refine (peek_any V6.out.e.e.mem _).mono ?_
              rintro e u ⟨rfl, rfl⟩)
           | (go_at_call 16
              refine (KB.out _).mono ?_
              rintro e u ⟨rfl, rfl⟩))
        clear d0 d1 d2 d3 d4 d5 d6 d7 d8 d9 d10 d11 d12 d13 u0 u1 u2 u3 u4 u5 u6 u7 u8 u9 u10 u11 u12 u13
        go_wp2_with fail
        go_roundw
        case rel => exact ⟨b + 1, by have := HB.out; omega, by go_num, V6.out⟩
        case measure => simp only [intOf]; have := HB.out; omega
end Go.Proofs.Ytmoblcfjplolgaa
