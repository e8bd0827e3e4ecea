/-
  The reference's order: Check and Left.
-/
import Derived.Test.YtpmdmeolehabjaaOrdG
namespace Go.Proofs.Ytpmdmeolehabjaa
open Go Go.RowKit
set_option linter.unusedSimpArgs false
set_option linter.unusedVariables false

set_option maxHeartbeats 4000000 in
theorem rchk_any {w : World} {c : Cfg} {pa : Option Addr} {pn : Nat} (pc : Nat) {sa : Option Addr} {sn : Nat} (sc : Nat) {la : Option Addr} {es : List Ev} (lc : Nat) (hl : Lists w 0 c pa pn sa sn) (he : InE w la es) (hle : es.length ≤ 1000) :
    Calls Try.prog 16 #[cv c pa pn pc sa sn sc, .slice la es.length lc] w fun e w' => ∃ n err : Int, e = .returned (.tuple #[.int .i64 n, .int .i64 err]) ∧ ChkO c es n err ∧ Below w.heap.size w w' := by
  have hX := Blk.made w 25 (cc c pa pn pc sa sn sc)
  have HB := Lib.hid (below_one w (.cells (cc c pa pn pc sa sn sc) 25))
  obtain ⟨e0, e1, e2, e3, e4, e5, e6, e7, e8, e9, e10⟩ := eleven hX
  have HX := Lib.hid hX
  have HL := Lib.hid hl
  have HE := Lib.hid he
  obtain ⟨L, hL⟩ : ∃ L, es.length = L := ⟨_, rfl⟩
  have HLL := Lib.hid hL
  rw [hL] at hle ⊢
  clear hX hl he hL
  by_cases h0 : chk c = 0
  · have hc0 := rcheck_any (HL.out.below HB.out) pc sc
    rw [h0] at hc0
    have HC0 := Lib.hid hc0
    have H0 := Lib.hid h0
    clear hc0 h0
    go_enter Try.func16, Try.ntmps16
    go_wp2_with (with_reducible refine HC0.out.mono ?_)
    rintro e w1 ⟨rfl, hb1⟩
    have HB1 := Lib.hid (HB.out.trans (hb1.mono HB.out.size))
    have HX1 := Lib.hid (HX.out.below hb1)
    clear e0 e1 e2 e3 e4 e5 e6 e7 e8 e9 e10 hb1 HC0
    have hq := Blk.made w1 64 #[.slice none 0 0, .int .i64 0]
    have hqb := below_one w1 (.cells #[.slice none 0 0, .int .i64 0] 64)
    have HRT := Lib.hid (show RT (w1.alloc (.cells #[.slice none 0 0, .int .i64 0] 64)) w.heap.size w1.heap.size (.slice none 0 0) con0 from ⟨hq, OwnG.nil _ _ _ _, HB1.out.size⟩)
    have HX2 := Lib.hid (HX1.out.below hqb)
    have HB2 := Lib.hid (HB1.out.trans (hqb.mono HB1.out.size))
    have hq1 : w.heap.size < w1.heap.size := HX1.out.lt
    clear hq hqb
    go_wp2_with fail
    generalize w1.alloc (.cells #[.slice none 0 0, .int .i64 0] 64) = W2 at *
    generalize w1.heap.size = q at *
    go_loopw [8] (fun v8 wr => ∃ (i : Nat) (v : Value) (k : Con), v8 = .int .i64 i ∧ i ≤ L ∧ preO c (es.take i) con0 = some k ∧ RT wr w.heap.size q v k ∧ Blk wr w.heap.size 25 (cc c pa pn pc sa sn sc) ∧ Below w.heap.size w wr) (fun v _ => L - (intOf v).toNat)
    case atStart => exact ⟨0, .slice none 0 0, con0, rfl, Nat.zero_le _, rfl, HRT.out, HX2.out, HB2.out⟩
    case round =>
      obtain ⟨i, v, k, rfl, hi, hpre, hrt, hbx, hb⟩ := hrel
      have HP := Lib.hid hpre
      have HR := Lib.hid hrt
      have HBX := Lib.hid hbx
      have HB' := Lib.hid hb
      clear hpre hrt hbx hb HRT HX2 HB2
      have hin := preO_in (c := c) (chk_he H0.out).1 (by rw [HLL.out]; exact hi) HP.out
      by_cases hlt : i < L
      · obtain ⟨d, hd⟩ : ∃ d, es[i]? = some d := ⟨_, List.getElem?_eq_getElem (by rw [HLL.out]; exact hlt)⟩
        have hev := HE.out.below HB'.out
        have hsu := (HL.out.below HB'.out).su
        obtain ⟨y, rfl, d0, d1, d2, d3, d4⟩ := hev.at_ hd
        have hH := chk_he H0.out
        have hcall := fun u (hu : Below wr.heap.size wr u) => rapply_any (HR.out.below hu) c pa pn pc sc d (hsu.below hu) (Nat.le_trans HB'.out.size hu.size) (by have := hin.he; omega) (by have := hin.ni; omega) hin.he
        have HCALL := Lib.hid hcall
        have HST := Lib.hid (preO_step HP.out hd)
        have HD := Lib.hid hd
        obtain ⟨c0, c1, c2, c3, c4, c5, c6, c7, c8, c9, c10⟩ := eleven HBX.out
        have i0 : (0 : Int) ≤ (i : Int) := by omega
        have i1 : (i : Int) < (L : Int) := by omega
        clear hev hsu hcall hin hd hH
        go_wp2_with fail
        go_still_tail 5, (by kernel_rfl)
        change wpList _ _ _ _ _ wr.drew
        have HD0 := Lib.hid (show Below wr.heap.size wr wr.drew from below_drew (Below.refl _ _))
        clear c0 c1 c2 c3 c4 c5 c6 c7 c8 c9 c10 d0 d1 d2 d3 d4
        generalize wr.drew = w4 at *
        go_wp2_with fail
        (with_reducible refine (HCALL.out w4 HD0.out).mono ?_)
        rintro e w5 ⟨rfl, v', hrt5, hf5⟩
        have hb5 : Below w.heap.size w w5 := by
          have h1 := HB'.out.size
          refine (HB'.out.trans (HD0.out.mono h1)).trans (hf5.below (Nat.le_trans h1 HD0.out.size) (fun b hb => by simp at hb; omega))
        have HBX5 := Lib.hid ((HBX.out.below HD0.out).of_same (hf5.block _ (HBX.out.below HD0.out).lt (by simp; omega)))
        have HB5 := Lib.hid hb5
        have HR5 := Lib.hid hrt5
        clear hrt5 hf5 hb5 HCALL
        cases hch : chO c k d with
        | none =>
          have HN := Lib.hid hch
          clear hch
          go_wp2
          go_ret2
          exact ⟨i, 6, rfl, .inr ⟨H0.out, i, k, ⟨by rw [HLL.out]; omega, HP.out, fun d2 hd2 => by have e9 := HD.out.symm.trans hd2; simp only [Option.some.injEq] at e9; subst e9; exact HN.out⟩, rfl, by rw [HLL.out, if_pos hlt]⟩, HB5.out⟩
        | some k2 =>
          rw [hch] at HR5 HST
          clear hch
          go_wp2
          go_roundw
          all_goals first
            | exact ⟨i + 1, v', k2, by push_cast; rfl, by omega, HST.out, HR5.out, HBX5.out, HB5.out⟩
            | (simp only [intOf]; omega)
      · obtain rfl : i = L := by omega
        go_wp2
        go_ret2
        exact ⟨i, 0, rfl, .inr ⟨H0.out, i, k, ⟨by rw [HLL.out]; omega, HP.out, fun d hd => by have := (List.getElem?_eq_some_iff.1 hd).1; rw [HLL.out] at this; omega⟩, rfl, by rw [HLL.out, if_neg (by omega)]⟩, HB'.out⟩
  · have hc0 := rcheck_any (HL.out.below HB.out) pc sc
    obtain ⟨R, hR⟩ : ∃ R, chk c = R := ⟨_, rfl⟩
    rw [hR] at hc0
    have hne : (R != 0) = true := bne_iff_ne.2 (by rw [← hR]; exact h0)
    have HC0 := Lib.hid hc0
    have H0 := Lib.hid h0
    have HR := Lib.hid hR
    clear hc0 h0 hR
    go_enter Try.func16, Try.ntmps16
    go_wp2_with (with_reducible refine HC0.out.mono ?_)
    rintro e w1 ⟨rfl, hb1⟩
    have HB1 := Lib.hid (HB.out.trans (hb1.mono HB.out.size))
    clear hb1 HC0 e0 e1 e2 e3 e4 e5 e6 e7 e8 e9 e10
    go_wp2
    go_ret2
    exact ⟨0, R, rfl, .inl ⟨H0.out, rfl, HR.out.symm⟩, HB1.out⟩
end Go.Proofs.Ytpmdmeolehabjaa
