/-
  The walk of the statement InjectorSizes: it returns true. (Written by wip/gen_l16s.py.)
-/
import Derived.Test.YtanbjdlaolgepaaGreatEnvs
import Derived.Test.YtanbjdlaolgepaaGreatMgBP
import Derived.Test.YtanbjdlaolgepaaGreatMatinserter
import Derived.Test.YtanbjdlaolgepaaGreatMatremover
import Derived.Test.YtanbjdlaolgepaaGreatMgBY
import Derived.Test.YtanbjdlaolgepaaGreatMgAT
import Derived.Test.YtanbjdlaolgepaaGreatMgAC
import Derived.Test.YtanbjdlaolgepaaGreatMgAK
namespace Go.Proofs.YtanbjdlaolgepaaGreat
open Go Go.RowKit Go.Shelf
set_option linter.unusedSimpArgs false
set_option linter.unusedVariables false

/-- The comparison begins. -/
theorem ms_start16 {W0 w w1 w2 : World} {ok : Fra → Prop} {B p m k g n : Nat} {hd : List Value} {rv : Value} {q : Nat} {a : EnvA} {s : St} {d : Int} {rs : List Rec} {C T kd : Int} {x y gy cy : Nat} {ty : TypeId} {post : List Value} {f : Fra} (hB : W0.heap.size = B) (hd0 : Duo w B p m k g n hd rv nilV q a s s a.now d [] [] rs rs) (hn : s.U) (hc : 0 ≤ s.c ∧ s.c ≤ C) (ht : 0 ≤ a.now ∧ a.now ≤ T) (hb : Below W0.heap.size W0 w)
    (h1 : Below w.heap.size w w1) (ho : LB w1 x ty post f 0 0) (hx : w.heap.size ≤ x) (h2 : Below w1.heap.size w1 w2) (hm : Mach1 w1.heap.size w2 y gy cy [] f) (hok : ok f) (hkd : f.kd = kd) :
    MS W0 ok kd ty B p m k g n hd rv nilV q y gy cy [] d [] rs s f a C T x (lncells f 0 0 ++ post).toArray w2 := by
  have s1 := hb.size
  have s2 := h1.size
  have hbm := hm.bm
  have hbg := hm.bg
  exact ⟨(hd0.below h1).below h2, (ho.below h2).blk, ⟨hm.blk, hm.fr, by omega, by omega, hm.hc⟩, hn.n, hok, hkd, hc, ht, hb.trans ((h1.trans (h2.mono s2)).mono s1), by omega, hB⟩
theorem InW.cellAt {w : World} {x : Addr} {n : Nat} {X : List Int} (h : InW w (some x) n X) {i : Nat} (hi : i < n) : w.cell? (x.add i) = some (.int .u64 (X.getD i 0)) := by
  obtain ⟨y, e, _, hc⟩ := h.2.2 i hi
  cases e
  exact hc
theorem ints1_16 (w : World) (z : Int) : InInts (w.alloc (.cells #[.int .i64 z] 3)) (some ⟨w.heap.size, 0, none⟩) 1 [z] := by
  have hB := Blk.made w 3 #[.int .i64 z]
  refine ⟨rfl, by unfold maxLen; simp, fun i hi => ⟨_, rfl, hB.lt, ?_⟩⟩
  obtain rfl : i = 0 := by omega
  exact hB.at_ 0
theorem go_acc {s : St} {j : Nat} (h : j < s.X.length) (v : Int) : s.go 2 j (fun _ => v) = s.acc 2 j v := by
  unfold St.go
  rw [if_pos (show s.has (j : Int) from ⟨by omega, by omega⟩), Int.toNat_natCast]
/-- What the loop over the keys keeps. -/
def SzR (W3 : World) (p m k g n : Nat) (hd : List Value) (rv : Value) (q : Nat) (a : EnvA) (d : Int) (rs : List Rec) (L : Nat) (i : Value) (wr : World) : Prop :=
  ∃ (j : Nat) (s : St), j ≤ L ∧ i = .int .i64 j ∧ Duo wr W3.heap.size p m k g n hd rv nilV q a s s a.now d [] [] rs rs ∧ s.U ∧ s.X.length = n ∧ (0 ≤ s.c ∧ s.c ≤ 80000 + j) ∧ Below W3.heap.size W3 wr

set_option maxRecDepth 100000 in
set_option maxHeartbeats 16000000 in
theorem sizes16_law {w : World} (n0 : Int) (hn0 : 0 ≤ n0 ∧ n0 ≤ 255) {ka : Option Addr} {kn : Nat} {X : List Int} (kc : Nat) (hk : InW w ka kn X ∧ ∀ x, x ∈ X → 0 ≤ x ∧ x < 18446744073709551616) (sz : Int) {na : Option Addr} {nn : Nat} {zs : List Int} (nc : Nat) (hz : InInts w na nn zs) (dl tk : Int) (rm nr : Bool) :
    Calls Tryz.prog 3 #[.int .u8 n0, .slice ka kn kc, .int .i64 sz, .slice na nn nc, .int .i64 dl, .int .i64 tk, .bool rm, .bool nr] w fun e w' => e = .returned (.bool true) ∧ Below w.heap.size w w' := by
  have hmk := hk.1.2.1
  have hmn := hz.2.1
  unfold maxLen at hmk hmn
  by_cases h80 : 80 < kn
  · clear hk hz
    go_enter Tryz.func3, Tryz.ntmps3
    go_wp2
    go_ret
    exact ⟨rfl, Below.refl _ _⟩
  have h81 : decide (80 < (kn : Int)) = false := decide_eq_false (by omega)
  have X0 := Lib.hid (Blk.made w 23 #[.slice na nn nc])
  have hb1 := below_one w (.cells #[.slice na nn nc] 23)
  have B1 := Lib.hid hb1
  have K1 := Lib.hid (And.intro (hk.1.below hb1) hk.2)
  have Z1 := Lib.hid (hz.below hb1)
  have SH := Lib.hid (short_one (w := w.alloc (.cells #[.slice na nn nc] 23)) (show (w.alloc (.cells #[.slice na nn nc] 23)).cell? ⟨w.heap.size, 0, none⟩ = some (.slice na nn nc) from X0.out.at_ 0) none 0 0)
  clear hk hz hb1
  obtain ⟨sb, hsb⟩ : ∃ sb, (decide (((0 : Nat) : Int) ≤ 400) && decide ((nn : Int) ≤ 400)) = sb := ⟨_, rfl⟩
  rw [hsb] at SH
  clear hsb
  obtain ⟨n, hn, hn2⟩ : ∃ n : Nat, 1 + n0 % 9 = (n : Int) ∧ (1 ≤ n ∧ n ≤ 9) := ⟨(1 + n0 % 9).toNat, by omega, by omega⟩
  have HN := Lib.hid hn2
  clear hn2
  go_enter Tryz.func3, Tryz.ntmps3
  go_wp2_with fail
  (with_reducible refine SH.out.mono ?_)
  rintro e w1 ⟨rfl, rfl⟩
  generalize w.alloc (.cells #[.slice na nn nc] 23) = W1 at *
  clear SH X0
  cases sb with
  | false =>
    go_wp2
    go_ret
    exact ⟨rfl, B1.out⟩
  | true =>
  have HT := Lib.hid (room_any n W1)
  go_wp2_with fail
  (with_reducible refine HT.out.mono ?_)
  rintro e w2 ⟨pa, pn, pc, sa, sn, sc, rfl, hl, hb⟩
  have hck : chk (roomC n) = 0 := room_chk ⟨HN.out.1, by have := HN.out.2; omega⟩
  have hHE : (roomC n).he = n := room_he n
  obtain ⟨c, hcc⟩ : ∃ c, roomC n = c := ⟨_, rfl⟩
  rw [hcc] at hl hck hHE ⊢
  have HCK := Lib.hid hck
  have HHE := Lib.hid hHE
  have hbz := below_one w2 (.cells (cc c pa pn pc sa sn sc) 28)
  have hb3 := hb.trans (hbz.mono hb.size)
  have B3 := Lib.hid (B1.out.trans (hb3.mono B1.out.size))
  have K3 := Lib.hid (And.intro (K1.out.1.below hb3) K1.out.2)
  have Z3 := Lib.hid (Z1.out.below hb3)
  have H3 := Lib.hid (hl.alloc (.cells (cc c pa pn pc sa sn sc) 28))
  have X3 := Lib.hid (Blk.made w2 28 (cc c pa pn pc sa sn sc))
  clear hl hb hbz hb3 hck hcc hn HT hHE B1 Z1 K1
  go_upto_region 4 with fail
  generalize w2.alloc (.cells (cc c pa pn pc sa sn sc) 28) = W3 at *
  generalize w2.heap.size = z at *
  go_upto_if 36 with fail
  go_cut [2] from 37 to 43 (fun v wx => ∃ sz' : Int, v = .int .i64 sz' ∧ Below W3.heap.size W3 wx)
  case first =>
    cases nr with
    | false =>
      go_wp2_with fail
      go_meet
      case rel => exact ⟨sz, rfl, Below.refl _ _⟩
    | true =>
      have z5 : W3.cell? ⟨z, 5, none⟩ = some (.int .i64 n) := by rw [← HHE.out]; exact X3.out.at_ 5
      have hI := ints1_16 W3 sz
      have hbI := below_one W3 (.cells #[.int .i64 sz] 3)
      have z5' : (W3.alloc (.cells #[.int .i64 sz] 3)).cell? ⟨z, 5, none⟩ = some (.int .i64 n) := by rw [← HHE.out]; exact (X3.out.below hbI).at_ 5
      have hn9 : (n : Int) ≤ 9 := by have := HN.out; omega
      have HB := Lib.hid hbI
      have HK := Lib.hid (fun (c' : Nat) => keepnum_lone (w := W3.alloc (.cells #[.int .i64 sz] 3)) (a := some ⟨W3.heap.size, 0, none⟩) (z := sz) hI c' ((n : Int) + 2) (by omega) (by omega))
      clear hI hbI
      go_wp2_with fail
      (with_reducible refine (HK.out _).mono ?_)
      rintro e wk ⟨rfl, m, rfl⟩
      go_wp2_with fail
      go_meet
      case rel => exact ⟨_, rfl, HB.out.trans ((below_drewN _ _).mono HB.out.size)⟩
  case rest =>
  obtain ⟨sz', rfl, hbx⟩ := hcut
  have B4 := Lib.hid hbx
  have H4 := Lib.hid (H3.out.below hbx)
  have X4 := Lib.hid (X3.out.below hbx)
  clear hbx H3 X3
  obtain ⟨x0, x1, x2, x3, x4, x5, x6, x7, x8, x9, x10⟩ := eleven X4.out
  obtain ⟨N, hN⟩ : ∃ N, (rCells c).toNat = N := ⟨_, rfl⟩
  have hin := cfgIn_chk HCK.out
  have HCI := Lib.hid hin
  have HNN := Lib.hid (show 5 + c.he ≤ (N : Int) ∧ N ≤ 70000 by have := cells_ge hin; omega)
  have HE := Lib.hid (envs_any (w := wc) (pc := pc) (sc := sc) (L := 0) (la := none) (lc := 0) (na := none) (nn := 0) (nc := 0) (zs := []) (T := 0) HCK.out H4.out hN rfl rfl (by omega) ⟨rfl, by simp, fun i hi => absurd hi (by omega)⟩ (fun W B x q g rv mv ys _ _ he hp _ => run0_any he hp (new_U _) none 0))
  clear hN hin
  go_wp2_with fail
  (with_reducible refine HE.out.mono ?_)
  rintro e w4 ⟨p, m, k, g, hd, rv, q, a, s, rs, d, rfl, hd4, hly, hac, hsU, hsl, hsc, hnow, hrs, hks, hb4⟩
  have D4 := Lib.hid hd4
  have LY := Lib.hid hly
  have S4 := Lib.hid (And.intro hsU (And.intro hsl (show 0 ≤ s.c ∧ s.c ≤ 80000 by have := HNN.out.2; omega)))
  have B5 := Lib.hid hb4
  have X5 := trivial
  have R4 := Lib.hid (And.intro hnow (show rs.length ≤ 1000000 by have := HCI.out.ta; omega))
  have HAC := Lib.hid hac
  clear hd4 hly hac hsU hsl hsc hnow hrs hks hb4 HE x0 x1 x2 x3 x4 x5 x6 x7 x8 x9 x10 H4 X5
  go_wp2_with fail
  (with_reducible refine (awake16_any _).mono ?_)
  rintro e w5 ⟨rfl, hb5⟩
  have D5 := Lib.hid (D4.out.below hb5)
  have B6 := Lib.hid (B5.out.trans (hb5.mono B5.out.size))
  clear hb5 D4 B5
  have K4 := Lib.hid (And.intro (K3.out.1.below B4.out) K3.out.2)
  have Z4 := Lib.hid (Z3.out.below B4.out)
  have BW := Lib.hid (B3.out.trans (B4.out.mono B3.out.size))
  clear K3 Z3 B3 B4
  go_wp2_with fail
  go_loopw [21] (fun i wr => SzR wc p m k g N hd rv q a d rs kn i wr) (fun i _ => kn - (intOf i).toNat)
  case atStart => exact ⟨0, s, Nat.zero_le _, rfl, D5.out, S4.out.1, S4.out.2.1, ⟨S4.out.2.2.1, by have := S4.out.2.2.2; omega⟩, B6.out⟩
  case round =>
    obtain ⟨j, s', hj, rfl, hD, hU, hsl', hsc', hb⟩ := hrel
    clear D5
    have D0 := Lib.hid hD
    have S0 := Lib.hid (And.intro hU (And.intro hsl' hsc'))
    have B0 := Lib.hid hb
    have X0 := Lib.hid (X4.out.below hb)
    have hj0 : (0 : Int) ≤ (j : Int) := by omega
    have hjb : (j : Int) ≤ 80 := by omega
    obtain ⟨x0, x1, x2, x3, x4, x5, x6, x7, x8, x9, x10⟩ := eleven X0.out
    by_cases hlt : j < kn ∧ (j : Int) < c.he
    · obtain ⟨ax, rfl, _, hcx⟩ := (K4.out.1.below hb).2.2 j hlt.1
      obtain ⟨V, hV⟩ : ∃ V, X.getD j 0 = V := ⟨_, rfl⟩
      rw [hV] at hcx
      have hVu : uw V := by
        rw [← hV, List.getD_eq_getElem?_getD, List.getElem?_eq_getElem (by rw [K4.out.1.1]; exact hlt.1)]
        exact K4.out.2 _ (List.getElem_mem _)
      have HV := Lib.hid (And.intro hV (And.intro hVu hlt))
      have hj1 : (j : Int) < (kn : Int) := by omega
      have hj2 : (j : Int) < c.he := hlt.2
      have hsj : rSlot c j = ((4 + j : Nat) : Int) := by rw [slot_is hlt.2]; omega
      have HSLOT := Lib.hid (show ∀ W, Calls Tryz.prog 10 #[cv c pa pn pc sa sn sc, .int .i64 j] W (GivesI ((4 + j : Nat) : Int) W) from fun W => hsj ▸ slot_any HCI.out (j : Int))
      clear hlt hV hVu hsj hD hU hsl' hsc' hb
      go_upto_region 12 with fail
      clear x0 x1 x2 x3 x4 x5 x6 x7 x8 x9 x10
      have D1 := Lib.hid (D0.out.drewN 1)
      have B1 := Lib.hid (below_drew B0.out)
      have X1 := Lib.hid (show Blk wr.drew z 28 (cc c pa pn pc sa sn sc) from X0.out)
      obtain ⟨d0, d1, d2, d3, d4, d5, d6, d7, d8, d9, d10⟩ := eleven X1.out
      have d20 : wr.drew.cell? ⟨p, 20, none⟩ = some (.pointer (some ⟨m, 0, none⟩)) := D1.out.e.at20
      have dk : wr.drew.cell? (ax.add j) = some (.int .u64 V) := hcx
      clear D0 B0 X0 hcx
      go_region_held3 (fun w' => w'.cell? ⟨z, 0, none⟩ = some (.int .i64 c.wo) ∧ w'.cell? ⟨z, 1, none⟩ = some (.int .i64 c.le) ∧ w'.cell? ⟨z, 2, none⟩ = some (.int .i64 c.cl) ∧ w'.cell? ⟨z, 3, none⟩ = some (.int .i64 c.ta) ∧ w'.cell? ⟨z, 4, none⟩ = some (.int .i64 c.de) ∧ w'.cell? ⟨z, 5, none⟩ = some (.int .i64 c.he) ∧ w'.cell? ⟨z, 6, none⟩ = some (.int .i64 c.ba) ∧ w'.cell? ⟨z, 7, none⟩ = some (.int .i64 c.ag) ∧ w'.cell? ⟨z, 8, none⟩ = some (.int .i64 c.pa) ∧ w'.cell? ⟨z, 9, none⟩ = some (.slice pa pn pc) ∧ w'.cell? ⟨z, 10, none⟩ = some (.slice sa sn sc) ∧ w'.cell? ⟨p, 20, none⟩ = some (.pointer (some ⟨m, 0, none⟩)) ∧ w'.cell? (ax.add j) = some (.int .u64 V)) ((first | exact ⟨b0, b1, b2, b3, b4, b5, b6, b7, b8, b9, b10, b20, bk⟩ | exact ⟨a0, a1, a2, a3, a4, a5, a6, a7, a8, a9, a10, a20, ak⟩ | exact ⟨d0, d1, d2, d3, d4, d5, d6, d7, d8, d9, d10, d20, dk⟩ | go_keep))
        (first
         | (go_at_call 10
            refine (HSLOT.out _).mono ?_
            rintro e w1 ⟨rfl, hbs⟩
            have D2 := Lib.hid (D1.out.below hbs)
            have B2 := Lib.hid (B1.out.trans (hbs.mono B1.out.size))
            have X2 := Lib.hid (X1.out.below hbs)
            obtain ⟨a0, a1, a2, a3, a4, a5, a6, a7, a8, a9, a10⟩ := eleven X2.out
            have a20 : w1.cell? ⟨p, 20, none⟩ = some (.pointer (some ⟨m, 0, none⟩)) := D2.out.e.at20
            have ak : w1.cell? (ax.add j) = some (.int .u64 V) := by rw [← HV.out.1]; exact (K4.out.1.below B2.out).cellAt HV.out.2.2.1
            clear hbs)
         | (go_at_call 9
            refine (store_any D2.out.e.mem _ _).mono ?_
            rintro e w2 ⟨rfl, hm, hf⟩
            have D3 := Lib.hid (D2.out.pacc hm hf)
            have B3 := Lib.hid (below_of_fr B2.out hf D2.out.lowP)
            have X3 := Lib.hid (X4.out.below B3.out)
            obtain ⟨b0, b1, b2, b3, b4, b5, b6, b7, b8, b9, b10⟩ := eleven X3.out
            have b20 : w2.cell? ⟨p, 20, none⟩ = some (.pointer (some ⟨m, 0, none⟩)) := D3.out.e.at20
            have bk : w2.cell? (ax.add j) = some (.int .u64 V) := by rw [← HV.out.1]; exact (K4.out.1.below B3.out).cellAt HV.out.2.2.1
            clear hm hf))
      clear d0 d1 d2 d3 d4 d5 d6 d7 d8 d9 d10 d20 dk a0 a1 a2 a3 a4 a5 a6 a7 a8 a9 a10 a20 ak b0 b1 b2 b3 b4 b5 b6 b7 b8 b9 b10 b20 bk D1 B1 X1 D2 B2 X2
      go_upto_region 13 with fail
      have D4 := Lib.hid (D3.out.drewN 1)
      have B4 := Lib.hid (below_drew B3.out)
      have X5 := Lib.hid (show Blk w2.drew z 28 (cc c pa pn pc sa sn sc) from X3.out)
      obtain ⟨d0, d1, d2, d3, d4, d5, d6, d7, d8, d9, d10⟩ := eleven X5.out
      have dk : w2.drew.cell? (ax.add j) = some (.int .u64 V) := by
        have := (K4.out.1.below B3.out).cellAt HV.out.2.2.1
        rw [HV.out.1] at this
        exact this
      have HLT := Lib.hid (show 4 + j < s'.X.length by have := S0.out.2.1; have := HV.out.2.2.2; have := HNN.out.1; omega)
      clear D3 B3 X3
      go_region_held3 (fun w' => w'.cell? ⟨z, 0, none⟩ = some (.int .i64 c.wo) ∧ w'.cell? ⟨z, 1, none⟩ = some (.int .i64 c.le) ∧ w'.cell? ⟨z, 2, none⟩ = some (.int .i64 c.cl) ∧ w'.cell? ⟨z, 3, none⟩ = some (.int .i64 c.ta) ∧ w'.cell? ⟨z, 4, none⟩ = some (.int .i64 c.de) ∧ w'.cell? ⟨z, 5, none⟩ = some (.int .i64 c.he) ∧ w'.cell? ⟨z, 6, none⟩ = some (.int .i64 c.ba) ∧ w'.cell? ⟨z, 7, none⟩ = some (.int .i64 c.ag) ∧ w'.cell? ⟨z, 8, none⟩ = some (.int .i64 c.pa) ∧ w'.cell? ⟨z, 9, none⟩ = some (.slice pa pn pc) ∧ w'.cell? ⟨z, 10, none⟩ = some (.slice sa sn sc) ∧ w'.cell? (ax.add j) = some (.int .u64 V)) ((first | exact ⟨b0, b1, b2, b3, b4, b5, b6, b7, b8, b9, b10, bk⟩ | exact ⟨a0, a1, a2, a3, a4, a5, a6, a7, a8, a9, a10, ak⟩ | exact ⟨d0, d1, d2, d3, d4, d5, d6, d7, d8, d9, d10, dk⟩ | go_keep))
        (first
         | (go_at_call 10
            refine (HSLOT.out _).mono ?_
            rintro e w3 ⟨rfl, hbs⟩
            have D6 := Lib.hid (D4.out.below hbs)
            have B6 := Lib.hid (B4.out.trans (hbs.mono B4.out.size))
            have X6 := Lib.hid (X5.out.below hbs)
            obtain ⟨a0, a1, a2, a3, a4, a5, a6, a7, a8, a9, a10⟩ := eleven X6.out
            have ak : w3.cell? (ax.add j) = some (.int .u64 V) := by rw [← HV.out.1]; exact (K4.out.1.below B6.out).cellAt HV.out.2.2.1
            clear hbs)
         | (go_at_call 11
            refine (eacc_store D6.out.f.m (j := 4 + j) HLT.out _ _).mono ?_
            rintro e w4 ⟨rfl, hm, hf⟩
            have D7 := Lib.hid (D6.out.racc hm hf)
            have B7 := Lib.hid (below_of_fr B6.out hf D6.out.lowR)
            have X7 := Lib.hid (X4.out.below B7.out)
            obtain ⟨b0, b1, b2, b3, b4, b5, b6, b7, b8, b9, b10⟩ := eleven X7.out
            have bk : w4.cell? (ax.add j) = some (.int .u64 V) := by rw [← HV.out.1]; exact (K4.out.1.below B7.out).cellAt HV.out.2.2.1
            clear hm hf))
      clear d0 d1 d2 d3 d4 d5 d6 d7 d8 d9 d10 dk a0 a1 a2 a3 a4 a5 a6 a7 a8 a9 a10 ak b0 b1 b2 b3 b4 b5 b6 b7 b8 b9 b10 bk D4 B4 X5 D6 B6 X6 X7
      go_wp2_with fail
      go_roundw
      case rel =>
        have h := D7.out
        rw [show (4 + (j : Int)) = ((4 + j : Nat) : Int) by omega, go_acc HLT.out V] at h
        have hc1 := go_c (s := s') 2 ((4 + j : Nat) : Int) (fun _ => V) ⟨S0.out.2.2.1, by have := S0.out.2.2.2; omega⟩
        have hu1 := go_U S0.out.1 2 ((4 + j : Nat) : Int) (fun _ => V) (fun _ _ => HV.out.2.1)
        have hl1 := go_len s' 2 ((4 + j : Nat) : Int) (fun _ => V)
        rw [go_acc HLT.out V] at hc1 hu1 hl1
        exact ⟨j + 1, _, HV.out.2.2.1, by go_num, h, hu1, hl1.trans S0.out.2.1, ⟨by have := S0.out.2.2.1; omega, by have := S0.out.2.2.2; omega⟩, B7.out⟩
      case measure => simp only [intOf]; have := HV.out.2.2.1; omega
    · have HSV := Lib.hid (show (((IntKind.u64.wrap sz' : Int))) = IntKind.u64.wrap sz' from rfl)
      have e20 : wr.cell? ⟨p, 20, none⟩ = some (.pointer (some ⟨m, 0, none⟩)) := D0.out.e.at20
      have hcond : (decide ((j : Int) < (kn : Int)) && decide ((j : Int) < c.he)) = false := by
        by_cases h1 : j < kn
        · have h2 : ¬ (j : Int) < c.he := fun h => hlt ⟨h1, h⟩
          rw [decide_eq_false h2, Bool.and_false]
        · rw [decide_eq_false (by omega), Bool.false_and]
      clear hD hU hsl' hsc' hb
      have key : ∀ (u : Nat), True := fun _ => trivial
      by_cases hjk : (j : Int) < (kn : Int)
      · have hjn2 : c.he ≤ (j : Int) := Int.not_lt.1 (fun h => hlt ⟨by omega, h⟩)
        have hjn : decide ((j : Int) < c.he) = false := decide_eq_false (by omega)
        clear hlt hcond
        go_wp2_with fail
        (with_reducible refine (store_any D0.out.e.mem 2 _).mono ?_)
        rintro e w6 ⟨rfl, hm, hf⟩
        have D6 := Lib.hid (D0.out.pacc hm hf)
        have B7 := Lib.hid (below_of_fr B0.out hf D0.out.lowP)
        clear hm hf e20 x0 x1 x2 x3 x4 x5 x6 x7 x8 x9 x10 D0 B0 X0
        have hlt2 : 2 < s'.X.length := by have := S0.out.2.1; have := HNN.out.1; have := HCI.out.he; omega
        have hacc := eacc_store D6.out.f.m (j := 2) hlt2 (IntKind.u64.wrap sz') 0
        rw [show ((2 : Nat) : Int) = 2 from rfl] at hacc
        have HACC := Lib.hid hacc
        have HL2 := Lib.hid hlt2
        clear hacc hlt2
        go_wp2_with fail
        (with_reducible refine HACC.out.mono ?_)
        rintro e w7 ⟨rfl, hm, hf⟩
        have hd7 := D6.out.racc hm hf
        have hgo := go_acc HL2.out (IntKind.u64.wrap sz')
        rw [show ((2 : Nat) : Int) = 2 from rfl] at hgo
        rw [hgo] at hd7
        have D7 := Lib.hid hd7
        have B8 := Lib.hid (below_of_fr B7.out hf D6.out.lowR)
        have hc1 := go_c (s := s') 2 2 (fun _ => IntKind.u64.wrap sz') ⟨S0.out.2.2.1, by have := S0.out.2.2.2; omega⟩
        have hu1 := go_U S0.out.1 2 2 (fun _ => IntKind.u64.wrap sz') (fun _ _ => uw_wrap _)
        rw [hgo] at hc1 hu1
        have S7 := Lib.hid (And.intro hu1 (show 0 ≤ (s'.acc 2 2 (IntKind.u64.wrap sz')).c ∧ (s'.acc 2 2 (IntKind.u64.wrap sz')).c ≤ 90000 by have := S0.out.2.2; omega))
        clear hd7 hgo hc1 hu1 hm hf D6 B7 HACC S0
        generalize s'.acc 2 2 (IntKind.u64.wrap sz') = s7 at *
        cases rm with
        | true =>
          go_wp2_with fail
          (with_reducible refine (remover_new 0 _).mono ?_)
          rintro e wA ⟨x, rfl, ho, hx, hbA⟩
          have OA := Lib.hid (And.intro ho (And.intro hx hbA))
          clear ho hx hbA
          have hmk := fun V => make_any { fra1 11 0 0 0 0 0 with ln := 0 } V rfl
          go_wp2_with fail
          (with_reducible refine (hmk _).mono ?_)
          rintro e wB ⟨y, gy, cy, rfl, hm, hbB⟩
          have MM := Lib.hid (ms_start16 (C := 90000) (T := 0) (f := fra1 11 0 0 0 0 0) rfl D7.out S7.out.1 S7.out.2 R4.out.1 B8.out OA.out.2.2 OA.out.1 OA.out.2.1 hbB hm (remOk_new 11 0) rfl)
          clear hm hbB hmk
          go_wp2_with fail
          (with_reducible refine (match_remover LY.out HCI.out HAC.out S7.out.1 rfl MM.out (by omega) (by omega) R4.out.2 Z4.out).mono ?_)
          rintro e wZ ⟨rfl, hbZ⟩
          go_wp2
          go_ret
          exact ⟨rfl, BW.out.trans (hbZ.mono BW.out.size)⟩
        | false =>
          go_wp2_with fail
          (with_reducible refine (inserter_new dl tk _).mono ?_)
          rintro e wA ⟨x, rfl, ho, hx, hbA⟩
          have OA := Lib.hid (And.intro ho (And.intro hx hbA))
          clear ho hx hbA
          have hmk := fun V => make_any { fra1 10 0 0 0 0 dl with fb := tk, ln := 0 } V rfl
          go_wp2_with fail
          (with_reducible refine (hmk _).mono ?_)
          rintro e wB ⟨y, gy, cy, rfl, hm, hbB⟩
          have MM := Lib.hid (ms_start16 (C := 90000) (T := 0) (f := { fra1 10 0 0 0 0 dl with fb := tk }) rfl D7.out S7.out.1 S7.out.2 R4.out.1 B8.out OA.out.2.2 OA.out.1 OA.out.2.1 hbB hm (insOk_new 10 dl tk) rfl)
          clear hm hbB hmk
          go_wp2_with fail
          (with_reducible refine (match_inserter LY.out HCI.out HAC.out S7.out.1 rfl MM.out (by omega) (by omega) R4.out.2 Z4.out).mono ?_)
          rintro e wZ ⟨rfl, hbZ⟩
          go_wp2
          go_ret
          exact ⟨rfl, BW.out.trans (hbZ.mono BW.out.size)⟩
      · have hjn2 : (kn : Int) ≤ (j : Int) := by omega
        have hjn : decide ((j : Int) < (kn : Int)) = false := decide_eq_false hjk
        have hjn3 : decide (j < kn) = false := decide_eq_false (by omega)
        clear hlt hcond hjk
        go_wp2_with fail
        (with_reducible refine (store_any D0.out.e.mem 2 _).mono ?_)
        rintro e w6 ⟨rfl, hm, hf⟩
        have D6 := Lib.hid (D0.out.pacc hm hf)
        have B7 := Lib.hid (below_of_fr B0.out hf D0.out.lowP)
        clear hm hf e20 x0 x1 x2 x3 x4 x5 x6 x7 x8 x9 x10 D0 B0 X0
        have hlt2 : 2 < s'.X.length := by have := S0.out.2.1; have := HNN.out.1; have := HCI.out.he; omega
        have hacc := eacc_store D6.out.f.m (j := 2) hlt2 (IntKind.u64.wrap sz') 0
        rw [show ((2 : Nat) : Int) = 2 from rfl] at hacc
        have HACC := Lib.hid hacc
        have HL2 := Lib.hid hlt2
        clear hacc hlt2
        go_wp2_with fail
        (with_reducible refine HACC.out.mono ?_)
        rintro e w7 ⟨rfl, hm, hf⟩
        have hd7 := D6.out.racc hm hf
        have hgo := go_acc HL2.out (IntKind.u64.wrap sz')
        rw [show ((2 : Nat) : Int) = 2 from rfl] at hgo
        rw [hgo] at hd7
        have D7 := Lib.hid hd7
        have B8 := Lib.hid (below_of_fr B7.out hf D6.out.lowR)
        have hc1 := go_c (s := s') 2 2 (fun _ => IntKind.u64.wrap sz') ⟨S0.out.2.2.1, by have := S0.out.2.2.2; omega⟩
        have hu1 := go_U S0.out.1 2 2 (fun _ => IntKind.u64.wrap sz') (fun _ _ => uw_wrap _)
        rw [hgo] at hc1 hu1
        have S7 := Lib.hid (And.intro hu1 (show 0 ≤ (s'.acc 2 2 (IntKind.u64.wrap sz')).c ∧ (s'.acc 2 2 (IntKind.u64.wrap sz')).c ≤ 90000 by have := S0.out.2.2; omega))
        clear hd7 hgo hc1 hu1 hm hf D6 B7 HACC S0
        generalize s'.acc 2 2 (IntKind.u64.wrap sz') = s7 at *
        cases rm with
        | true =>
          go_wp2_with fail
          (with_reducible refine (remover_new 0 _).mono ?_)
          rintro e wA ⟨x, rfl, ho, hx, hbA⟩
          have OA := Lib.hid (And.intro ho (And.intro hx hbA))
          clear ho hx hbA
          have hmk := fun V => make_any { fra1 11 0 0 0 0 0 with ln := 0 } V rfl
          go_wp2_with fail
          (with_reducible refine (hmk _).mono ?_)
          rintro e wB ⟨y, gy, cy, rfl, hm, hbB⟩
          have MM := Lib.hid (ms_start16 (C := 90000) (T := 0) (f := fra1 11 0 0 0 0 0) rfl D7.out S7.out.1 S7.out.2 R4.out.1 B8.out OA.out.2.2 OA.out.1 OA.out.2.1 hbB hm (remOk_new 11 0) rfl)
          clear hm hbB hmk
          go_wp2_with fail
          (with_reducible refine (match_remover LY.out HCI.out HAC.out S7.out.1 rfl MM.out (by omega) (by omega) R4.out.2 Z4.out).mono ?_)
          rintro e wZ ⟨rfl, hbZ⟩
          go_wp2
          go_ret
          exact ⟨rfl, BW.out.trans (hbZ.mono BW.out.size)⟩
        | false =>
          go_wp2_with fail
          (with_reducible refine (inserter_new dl tk _).mono ?_)
          rintro e wA ⟨x, rfl, ho, hx, hbA⟩
          have OA := Lib.hid (And.intro ho (And.intro hx hbA))
          clear ho hx hbA
          have hmk := fun V => make_any { fra1 10 0 0 0 0 dl with fb := tk, ln := 0 } V rfl
          go_wp2_with fail
          (with_reducible refine (hmk _).mono ?_)
          rintro e wB ⟨y, gy, cy, rfl, hm, hbB⟩
          have MM := Lib.hid (ms_start16 (C := 90000) (T := 0) (f := { fra1 10 0 0 0 0 dl with fb := tk }) rfl D7.out S7.out.1 S7.out.2 R4.out.1 B8.out OA.out.2.2 OA.out.1 OA.out.2.1 hbB hm (insOk_new 10 dl tk) rfl)
          clear hm hbB hmk
          go_wp2_with fail
          (with_reducible refine (match_inserter LY.out HCI.out HAC.out S7.out.1 rfl MM.out (by omega) (by omega) R4.out.2 Z4.out).mono ?_)
          rintro e wZ ⟨rfl, hbZ⟩
          go_wp2
          go_ret
          exact ⟨rfl, BW.out.trans (hbZ.mono BW.out.size)⟩
end Go.Proofs.YtanbjdlaolgepaaGreat
