/-
  Contract of Fair of package script.
-/
import Derived.Test.YtpaacpcmijhcmaaScRefs
import Derived.Deep.OwnRows
import Derived.Laws.NewBlocks
namespace Go.Proofs.Ytpaacpcmijhcmaa
open Go Go.RowKit

/-- Block g is just the ints Y. -/
def IRow (w : World) (g : Nat) (Y : List Int) : Prop := Blk w g 3 (Y.map (Value.int .i64)).toArray

theorem IRow.at_ {w : World} {g : Nat} {Y : List Int} (h : IRow w g Y) {i : Nat} (hi : i < Y.length) : w.cell? ⟨g, i, none⟩ = some (.int .i64 (Y.getD i 0)) := by
  rw [Blk.at_ h i]
  simp [hi]
theorem IRow.free {w : World} {g : Nat} {Y : List Int} (h : IRow w g Y) (i : Nat) : w.frozen? ⟨g, i, none⟩ = false := Blk.free h i
theorem IRow.put {w : World} {g : Nat} {Y : List Int} (h : IRow w g Y) (i : Nat) (v : Int) : IRow (w.setCell ⟨g, i, none⟩ (.int .i64 v)) g (Y.set i v) := by
  have := Blk.put h i (.int .i64 v)
  unfold IRow
  rw [List.map_set]
  rwa [List.setIfInBounds_toArray] at this
theorem IRow.below {w w' : World} {g : Nat} {Y : List Int} (h : IRow w g Y) (hb : Below w.heap.size w w') : IRow w' g Y := Blk.of_same h (hb.block g (Blk.lt h))
theorem IRow.made (w : World) (n : Nat) : IRow (w.alloc (.cells (madeCells #[.int .i64 0] n) 3)) w.heap.size (List.replicate n 0) := by
  have := Blk.made w 3 (madeCells #[.int .i64 0] n)
  unfold IRow
  have e : madeCells #[.int .i64 0] n = ((List.replicate n (0 : Int)).map (Value.int .i64)).toArray := by
    apply Array.ext'
    rw [toList_madeCells_one]
    simp
  rw [← e]
  exact this
theorem info_int : (Try.prog.info? 3).map (fun i => (i.zero, i.size, i.bytes)) = some (some (.int .i64 0), 1, 8) := by kernel_rfl

theorem getD_set_other {Y : List Int} {i j : Nat} {v d : Int} (h : i ≠ j) : (Y.set i v).getD j d = Y.getD j d := by
  rw [List.getD_eq_getElem?_getD, List.getD_eq_getElem?_getD, List.getElem?_set_ne h]
theorem getD_set_same {Y : List Int} {i : Nat} {v d : Int} (h : i < Y.length) : (Y.set i v).getD i d = v := by
  rw [List.getD_eq_getElem?_getD, List.getElem?_set_self h]
  rfl

/-- What Fair's first loop keeps. -/
def FairR1 (w : World) (g N : Nat) (i : Value) (wr : World) : Prop :=
  ∃ (k : Nat) (Y : List Int), k ≤ N + 1 ∧ i = .int .i64 k ∧ Y.length = N + 1 ∧ (∀ j, j < k → Y.getD j 0 = -1) ∧ IRow wr g Y ∧ Below w.heap.size w wr
/-- What its second loop keeps. -/
def FairR2 (w : World) (g N K : Nat) (es : List (Int × Int)) (i : Value) (wr : World) : Prop :=
  ∃ (k : Nat) (Y : List Int), k ≤ es.length ∧ i = .int .i64 k ∧ Y.length = N + 1 ∧ (∀ c : Nat, c ≤ N → Gap N K es c k (Y.getD c 0)) ∧ IRow wr g Y ∧ Below w.heap.size w wr
/-- What its third loop keeps. -/
def FairR3 (w : World) (g N K : Nat) (Y : List Int) (es : List (Int × Int)) (i : Value) (wr : World) : Prop :=
  ∃ k : Nat, k ≤ N + 1 ∧ i = .int .i64 k ∧ (∀ c : Nat, c < k → (es.length : Int) - Y.getD c 0 ≤ K) ∧ IRow wr g Y ∧ Below w.heap.size w wr

theorem gaps_step {N K k : Nat} {es : List (Int × Int)} {Y : List Int} {e : Int × Int} {m : Nat} (h : ∀ c : Nat, c ≤ N → Gap N K es c k (Y.getD c 0)) (he : es[k]? = some e) (hm : code N e = (m : Int)) (hmY : m < Y.length) (hk : (k : Int) - Y.getD m 0 ≤ K) :
    ∀ c : Nat, c ≤ N → Gap N K es c (k + 1) ((Y.set m (k : Int)).getD c 0) := by
  intro c hc
  by_cases hcm : m = c
  · subst hcm
    rw [getD_set_same hmY]
    exact (h m hc).same he hm hk
  · rw [getD_set_other hcm]
    exact (h c hc).other he (by omega)
theorem gaps_none {N K k : Nat} {es : List (Int × Int)} {Y : List Int} {e : Int × Int} (h : ∀ c : Nat, c ≤ N → Gap N K es c k (Y.getD c 0)) (he : es[k]? = some e) (hm : code N e = -1) :
    ∀ c : Nat, c ≤ N → Gap N K es c (k + 1) (Y.getD c 0) := fun c hc => (h c hc).other he (by omega)

set_option maxHeartbeats 4000000 in
theorem fair_any {w : World} {a : Option Addr} {L : Nat} {es : List (Int × Int)} (h : Ents w a L es) (c : Nat) (hL : L ≤ 1000000) (n k : Int) (hnm : n ≤ 9223372036854775807) (hkm : k ≤ 9223372036854775807) :
    Calls Try.prog 22 #[.slice a L c, .int .i64 n, .int .i64 k] w (FairR n k es w) := by
  have hl := h.1
  have H := Lib.hid h
  clear h
  by_cases hn : n < 1
  · clear hl
    go_enter Try.func22, Try.ntmps22
    go_wp2
    go_ret
    exact ⟨false, rfl, by simp; omega, Below.refl _ _⟩
  · by_cases hk : k < 1
    · clear hl
      go_enter Try.func22, Try.ntmps22
      go_wp2
      go_ret
      exact ⟨false, rfl, by simp; omega, Below.refl _ _⟩
    · subst hl
      obtain ⟨K, rfl⟩ : ∃ K : Nat, k = (K : Int) := ⟨k.toNat, by omega⟩
      obtain ⟨N, rfl⟩ : ∃ N : Nat, n = (N : Int) := ⟨n.toNat, by omega⟩
      by_cases hLK : es.length < K
      · go_enter Try.func22, Try.ntmps22
        go_wp2
        go_ret
        exact ⟨true, rfl, by
          simp only [true_iff]
          exact ⟨by omega, by omega, by rw [Int.toNat_natCast]; exact fairly_short hLK⟩, Below.refl _ _⟩
      · by_cases hNK : K ≤ N
        · go_enter Try.func22, Try.ntmps22
          go_wp2
          go_ret
          exact ⟨false, rfl, by
            simp only [Bool.false_eq_true, false_iff]
            rintro ⟨_, _, hf⟩
            rw [Int.toNat_natCast] at hf
            exact fairly_full (by omega) (by omega) (by omega) hf, Below.refl _ _⟩
        · have hmk := run_make_row' (P := Try.prog) 33 3 (.int .i64 0) 8 Try.underlying33 info_int rfl .i64 .i64 (N + 1) (by omega) (by omega) w
          have R0 := IRow.made w (N + 1)
          have B0 := below_one w (.cells (madeCells #[.int .i64 0] (N + 1)) 3)
          rw [show ((N + 1 : Nat) : Int) = (N : Int) + 1 by omega] at hmk
          have hge : ¬ (es.length : Int) < K := by omega
          go_enter Try.func22, Try.ntmps22
          go_wp2_with fail
          go_loopw [8, 32] (fun _ i wr => FairR1 w w.heap.size N i wr) (fun _ i _ => N + 1 - (intOf i).toNat)
          case atStart => exact ⟨0, _, by omega, rfl, by simp, fun j hj => by omega, R0, B0⟩
          case round =>
            obtain ⟨i, Y, hi, rfl, hY, hall, hrow, hb⟩ := hrel
            have HA := Lib.hid hall
            have HR := Lib.hid hrow
            have HB := Lib.hid hb
            clear hall hrow hb R0 B0 hmk
            by_cases hlt : i < N + 1
            · have f0 := HR.out.free i
              have c0 := HR.out.at_ (i := i) (by omega)
              have HR2 := Lib.hid (HR.out.put i (-1))
              have HB2 := Lib.hid (HB.out.setCell (p := ⟨w.heap.size, i, none⟩) (Nat.le_refl _) (.int .i64 (-1)))
              go_wp2_with fail
              go_roundw
              case rel => exact ⟨i + 1, Y.set i (-1), by omega, by go_num, by simpa using hY, fun j hj => by
                by_cases hji : i = j
                · subst hji
                  exact getD_set_same (by omega)
                · rw [getD_set_other hji]
                  exact HA.out j (by omega), HR2.out, HB2.out⟩
              case measure => simp [intOf]; omega
            · obtain rfl : i = N + 1 := by omega
              have hG := fun (c : Nat) (hc : c ≤ N) => (HA.out c (by omega)) ▸ Gap.start (N : Int) K es (c : Int)
              have HG := Lib.hid hG
              clear hG HA
              go_wp2_with fail
              go_loopw [9, 11, 41] (fun _ _ i wr => FairR2 w w.heap.size N K es i wr) (fun _ _ i _ => es.length - (intOf i).toNat)
              case atStart => exact ⟨0, Y, by omega, rfl, hY, HG.out, HR.out, HB.out⟩
              case round =>
                obtain ⟨k, Z, hk, rfl, hZ, hgap, hrow, hb⟩ := hrel
                have HG2 := Lib.hid hgap
                have HR2 := Lib.hid hrow
                have HB2 := Lib.hid hb
                clear hgap hrow hb HG HR HB hY Y
                by_cases hlt : k < es.length
                · obtain ⟨x, k1, v1, rfl, he, _, c0, c1⟩ := (H.out.below HB2.out).at_ hlt
                  have HE := Lib.hid he
                  clear he
                  have HB3 := Lib.hid (HB2.out.alloc HB2.out.size (.cells #[.int .i64 k1, .int .i64 v1] 43))
                  have HR3 := Lib.hid (HR2.out.below (below_one wr (.cells #[.int .i64 k1, .int .i64 v1] 43)))
                  have HX := Lib.hid (Blk.made wr 43 #[.int .i64 k1, .int .i64 v1])
                  clear HB2 HR2
                  go_wp2_with fail
                  refine (mach_any k1 v1 N (by omega) _).mono ?_
                  rintro e w2 ⟨rfl, hb2⟩
                  have HB4 := Lib.hid (HB3.out.trans (hb2.mono HB3.out.size))
                  have HR4 := Lib.hid (HR3.out.below hb2)
                  have hX := HX.out.of_same (hb2.block wr.heap.size (by simp))
                  have d0 : w2.cell? ⟨wr.heap.size, 0, none⟩ = some (.int .i64 k1) := hX.at_ 0
                  have d1 : w2.cell? ⟨wr.heap.size, 1, none⟩ = some (.int .i64 v1) := hX.at_ 1
                  clear hb2 HB3 HR3 HX hX c0 c1
                  by_cases hk1 : k1 = 1
                  · subst hk1
                    have hcode : code N ((1 : Int), v1) = ((N : Nat) : Int) := code_tick _ _ rfl
                    have HC := Lib.hid hcode
                    clear hcode
                    have gp := HG2.out N (Nat.le_refl _)
                    have c2 := HR4.out.at_ (i := N) (by omega)
                    have f2 := HR4.out.free N
                    have glow := gp.low
                    have ghigh := gp.high
                    have GP := Lib.hid gp
                    clear gp
                    by_cases hwide : (K : Int) < (k : Int) - Z.getD N 0
                    · have hnf := GP.out.wide (by omega) hwide (by omega) (by omega) (by omega)
                      have HF := Lib.hid hnf
                      clear hnf
                      generalize Z.getD N 0 = y at *
                      go_wp2
                      go_ret
                      refine ⟨false, rfl, ?_, HB4.out⟩
                      simp only [Bool.false_eq_true, false_iff]
                      rintro ⟨_, _, hf⟩
                      rw [Int.toNat_natCast] at hf
                      exact HF.out hf
                    · have HG3 := Lib.hid (gaps_step HG2.out HE.out HC.out (by omega) (by omega))
                      have HR5 := Lib.hid (HR4.out.put N k)
                      have HB5 := Lib.hid (HB4.out.setCell (p := ⟨w.heap.size, N, none⟩) (Nat.le_refl _) (.int .i64 k))
                      clear HG2 GP HR4 HB4
                      generalize Z.getD N 0 = y at *
                      go_wp2_with fail
                      go_roundw
                      case rel =>
                        (repeat apply Exists.intro)
                        exact ⟨⟨k + 1, Z.set N k, by omega, by go_num, by simpa using hZ, HG3.out, HR5.out, HB5.out⟩, rfl⟩
                      case measure => simp [intOf]; omega
                  · have hk1' : (k1 == 1) = false := by simpa using hk1
                    have hcode : code N (k1, v1) = cls N (k1, v1) := code_other _ _ hk1
                    by_cases hk0 : k1 = 0
                    · subst hk0
                      have hcls := cls_in N ((0 : Int), v1) rfl (by omega)
                      obtain ⟨g, hg⟩ : ∃ g : Nat, cls N ((0 : Int), v1) = (g : Int) := ⟨(cls N ((0 : Int), v1)).toNat, by omega⟩
                      rw [hg] at hcls hcode ⊢
                      have HC := Lib.hid hcode
                      clear hcode hg
                      obtain ⟨_, hgN⟩ := hcls
                      have gp := HG2.out g (by omega)
                      have c2 := HR4.out.at_ (i := g) (by omega)
                      have f2 := HR4.out.free g
                      have glow := gp.low
                      have ghigh := gp.high
                      have GP := Lib.hid gp
                      clear gp
                      by_cases hwide : (K : Int) < (k : Int) - Z.getD g 0
                      · have hnf := GP.out.wide (by omega) hwide (by omega) (by omega) (by omega)
                        have HF := Lib.hid hnf
                        clear hnf
                        generalize Z.getD g 0 = y at *
                        go_wp2
                        go_ret
                        refine ⟨false, rfl, ?_, HB4.out⟩
                        simp only [Bool.false_eq_true, false_iff]
                        rintro ⟨_, _, hf⟩
                        rw [Int.toNat_natCast] at hf
                        exact HF.out hf
                      · have HG3 := Lib.hid (gaps_step HG2.out HE.out HC.out (by omega) (by omega))
                        have HR5 := Lib.hid (HR4.out.put g k)
                        have HB5 := Lib.hid (HB4.out.setCell (p := ⟨w.heap.size, g, none⟩) (Nat.le_refl _) (.int .i64 k))
                        clear HG2 GP HR4 HB4
                        generalize Z.getD g 0 = y at *
                        go_wp2_with fail
                        go_roundw
                        case rel =>
                          (repeat apply Exists.intro)
                          exact ⟨⟨k + 1, Z.set g k, by omega, by go_num, by simpa using hZ, HG3.out, HR5.out, HB5.out⟩, rfl⟩
                        case measure => simp [intOf]; omega
                    · rw [cls_other _ _ hk0] at hcode ⊢
                      have HG3 := Lib.hid (gaps_none HG2.out HE.out hcode)
                      clear hcode HG2 hk0 hk1
                      go_wp2_with fail
                      go_roundw
                      case rel =>
                        (repeat apply Exists.intro)
                        exact ⟨⟨k + 1, Z, by omega, by go_num, hZ, HG3.out, HR4.out, HB4.out⟩, rfl⟩
                      case measure => simp [intOf]; omega
                · obtain rfl : k = es.length := by omega
                  go_wp2_with fail
                  go_loopw [13, 70] (fun _ i wr => FairR3 w w.heap.size N K Z es i wr) (fun _ i _ => N + 1 - (intOf i).toNat)
                  case atStart => exact ⟨0, by omega, rfl, fun c hc => by omega, HR2.out, HB2.out⟩
                  case round =>
                    obtain ⟨m, hm, rfl, hall, hrow, hb⟩ := hrel
                    have HA := Lib.hid hall
                    have HR3 := Lib.hid hrow
                    have HB3 := Lib.hid hb
                    clear hall hrow hb HR2 HB2
                    by_cases hlt2 : m < N + 1
                    · have gp := HG2.out m (by omega)
                      have c2 := HR3.out.at_ (i := m) (by omega)
                      have glow := gp.low
                      have ghigh := gp.high
                      have GP := Lib.hid gp
                      clear gp
                      by_cases hwide : (K : Int) < (es.length : Int) - Z.getD m 0
                      · have hnf := GP.out.wide (by omega) hwide (by omega) (by omega) (by omega)
                        have HF := Lib.hid hnf
                        clear hnf
                        generalize Z.getD m 0 = y at *
                        go_wp2
                        go_ret
                        refine ⟨false, rfl, ?_, HB3.out⟩
                        simp only [Bool.false_eq_true, false_iff]
                        rintro ⟨_, _, hf⟩
                        rw [Int.toNat_natCast] at hf
                        exact HF.out hf
                      · have HA2 := Lib.hid (fun (c : Nat) (hc : c < m + 1) => by
                          by_cases hcm : c < m
                          · exact HA.out c hcm
                          · obtain rfl : c = m := by omega
                            exact (show (es.length : Int) - Z.getD c 0 ≤ K by omega))
                        clear GP HA
                        generalize Z.getD m 0 = y at *
                        go_wp2_with fail
                        go_roundw
                        case rel => exact ⟨m + 1, by omega, by go_num, HA2.out, HR3.out, HB3.out⟩
                        case measure => simp [intOf]; omega
                    · go_wp2
                      go_ret
                      refine ⟨true, rfl, ?_, HB3.out⟩
                      simp only [true_iff]
                      refine ⟨by omega, by omega, ?_⟩
                      rw [Int.toNat_natCast]
                      refine (fairly_hit (by omega) _ _).2 (fun j hj c h0 hc => ?_)
                      have := (HG2.out c.toNat (by omega)).done (HA.out c.toNat (by omega)) j hj
                      rwa [Int.toNat_of_nonneg h0] at this
end Go.Proofs.Ytpaacpcmijhcmaa
