/-
  Contract of Round.
-/
import Derived.Test.YtpaacpcmijhcmaaScCallsD
namespace Go.Proofs.Ytpaacpcmijhcmaa
open Go Go.RowKit

set_option maxHeartbeats 2000000 in
theorem round_any {w : World} {a : Option Addr} {L : Nat} {zs : List Int} (h : InInts w a L zs) (c p : Nat) (hp : p ≤ 1000) (n : Nat) (hn : 1 ≤ n) (hn' : n ≤ 1000) :
    Calls Try.prog 19 #[.slice a L c, .int .i64 p, .int .i64 n] w (Rounded n w) := by
  have H := Lib.hid h
  clear h
  go_enter Try.func19, Try.ntmps19
  go_wp2_with fail
  go_loopw [7, 8] (fun l m wr => RoundR w n l m wr) (fun _ m _ => n - (intOf m).toNat)
  case atStart => exact ⟨[], by simp, rfl, OwnE.nil _ _, fun j hj => by simp at hj, Below.refl _ _⟩
  case round =>
    obtain ⟨es, hk, rfl, hown, hall, hb⟩ := hrel
    have HALL := Lib.hid hall
    clear hall
    have HB := Lib.hid hb
    clear hb
    obtain ⟨al, cl, rfl, hE, hcl⟩ := hown.ents
    have HO := Lib.hid hown
    clear hown
    have HE := Lib.hid hE
    clear hE
    by_cases hlt : es.length < n
    · go_wp2_with fail
      refine (pick_any _ _).mono ?_
      rintro e w1 ⟨rfl, hb1⟩
      have HB1 := Lib.hid (HB.out.trans (hb1.mono HB.out.size))
      have HE1 := Lib.hid (HE.out.below hb1)
      clear hb1 HB HE HO
      go_wp2_with fail
      refine (number_any (H.out.below HB1.out) c (p + es.length) (by omega) ((es.length : Int) + 1) (by omega) (by omega)).mono ?_
      rintro e w2 ⟨y, hy, rfl, m2, rfl⟩
      have HB2 := Lib.hid (HB1.out.trans ((below_drewN w1 m2).mono HB1.out.size))
      have HE2 := Lib.hid (HE1.out.drewN m2)
      clear HB1 HE1
      go_wp2_with fail
      refine (insert_any HE2.out cl hcl (by omega) 0 es.length y (by omega)).mono ?_
      rintro e w3 ⟨v3, rfl, ho3, hb3⟩
      have HB3 := Lib.hid (HB2.out.trans (hb3.mono HB2.out.size))
      have HO3 := Lib.hid (ho3.mono HB2.out.size)
      clear HB2 HE2 ho3 hb3
      go_wp2_with fail
      go_roundw
      case rel =>
        refine ⟨_, ?_, ?_, HO3.out, fun j hj => mem_inserted ?_, HB3.out⟩
        · rw [length_inserted (by omega)]
          omega
        · rw [length_inserted (by omega)]
          go_num
        · rw [length_inserted (by omega)] at hj
          by_cases hjk : j < es.length
          · exact .inl (HALL.out j hjk)
          · obtain rfl : j = es.length := by omega
            exact .inr rfl
      case measure => simp [intOf]; omega
    · obtain rfl : n = es.length := by omega
      go_wp2_with fail
      refine (number_any (H.out.below HB.out) c (p + es.length) (by omega) ((es.length : Int) + 1) (by omega) (by omega)).mono ?_
      rintro e w2 ⟨y, hy, rfl, m2, rfl⟩
      have HB2 := Lib.hid (HB.out.trans ((below_drewN wr m2).mono HB.out.size))
      have HE2 := Lib.hid (HE.out.drewN m2)
      clear HB HE HO
      go_wp2_with fail
      refine (insert_any HE2.out cl hcl (by omega) 1 0 y (by omega)).mono ?_
      rintro e w3 ⟨v3, rfl, ho3, hb3⟩
      have HB3 := Lib.hid (HB2.out.trans (hb3.mono HB2.out.size))
      have HO3 := Lib.hid (ho3.mono HB2.out.size)
      have HC := Lib.hid (comp_of_all (fun j hj => mem_inserted (at_ := y) (e := ((1 : Int), (0 : Int))) (.inl (HALL.out j hj))) (mem_inserted (es := es) (at_ := y) (.inr rfl)))
      have hlen3 : (es.take y ++ [((1 : Int), (0 : Int))] ++ es.drop y).length = es.length + 1 := by rw [length_inserted (by omega)]
      clear HB2 HE2 ho3 hb3 HALL
      generalize es.take y ++ [((1 : Int), (0 : Int))] ++ es.drop y = es3 at *
      go_wp2_with fail
      refine (number_any (H.out.below HB3.out) c (p + es.length + 1) (by omega) 3 (by omega) (by omega)).mono ?_
      rintro e w4 ⟨y4, hy4, rfl, m4, rfl⟩
      have HB4 := Lib.hid (HB3.out.trans ((below_drewN w3 m4).mono HB3.out.size))
      have HO4 := Lib.hid (HO3.out.below (below_drewN w3 m4))
      clear HB3 HO3
      go_wp2_with fail
      go_loopw [7, 9] (fun l m wr => RoundR2 w es.length l m wr) (fun _ m _ => (intOf m).toNat)
      case atStart => exact ⟨y4, es3, by omega, rfl, HO4.out, by omega, by omega, HC.out, HB4.out⟩
      case round =>
        obtain ⟨k, es5, hk, rfl, hown, hlen, hlen', hcomp, hb⟩ := hrel
        have HC5 := Lib.hid hcomp
        have HB5 := Lib.hid hb
        obtain ⟨al5, cl5, rfl, hE, hcl5⟩ := hown.ents
        have HO5 := Lib.hid hown
        have HE5 := Lib.hid hE
        clear hcomp hb hown hE HB4 HO4 HC
        by_cases hk0 : 0 < k
        · go_wp2_with fail
          refine (number_any (H.out.below HB5.out) c (p + es.length + k) (by omega) es.length (by omega) (by omega)).mono ?_
          rintro e w6 ⟨y6, hy6, rfl, m6, rfl⟩
          have HB6 := Lib.hid (HB5.out.trans ((below_drewN wr m6).mono HB5.out.size))
          have HE6 := Lib.hid (HE5.out.drewN m6)
          clear HB5 HE5 HO5
          go_wp2_with fail
          refine (pick_any _ _).mono ?_
          rintro e w7 ⟨rfl, hb7⟩
          have HB7 := Lib.hid (HB6.out.trans (hb7.mono HB6.out.size))
          have HE7 := Lib.hid (HE6.out.below hb7)
          clear hb7 HB6 HE6
          go_wp2_with fail
          refine (number_any (H.out.below HB7.out) c (p + k) (by omega) ((es5.length : Int) + 1) (by omega) (by omega)).mono ?_
          rintro e w8 ⟨y8, hy8, rfl, m8, rfl⟩
          have HB8 := Lib.hid (HB7.out.trans ((below_drewN w7 m8).mono HB7.out.size))
          have HE8 := Lib.hid (HE7.out.drewN m8)
          clear HB7 HE7
          go_wp2_with fail
          refine (insert_any HE8.out cl5 hcl5 (by omega) 0 y6 y8 (by omega)).mono ?_
          rintro e w9 ⟨v9, rfl, ho9, hb9⟩
          have HB9 := Lib.hid (HB8.out.trans (hb9.mono HB8.out.size))
          have HO9 := Lib.hid (ho9.mono HB8.out.size)
          have hlen9 : (es5.take y8 ++ [((0 : Int), (y6 : Int))] ++ es5.drop y8).length = es5.length + 1 := length_inserted (by omega)
          have HC9 := Lib.hid (HC5.out.mono (fun e he => mem_inserted (at_ := y8) (e := ((0 : Int), (y6 : Int))) (.inl he)))
          clear HB8 HE8 ho9 hb9 HC5
          generalize es5.take y8 ++ [((0 : Int), (y6 : Int))] ++ es5.drop y8 = es9 at *
          go_wp2_with fail
          go_roundw
          case rel => exact ⟨k - 1, es9, by omega, by rw [show ((k - 1 : Nat) : Int) = (k : Int) - 1 by omega], HO9.out, by omega, by omega, HC9.out, HB9.out⟩
          case measure => simp [intOf]; omega
        · obtain rfl : k = 0 := by omega
          go_wp2
          go_ret
          exact ⟨_, es5, rfl, HO5.out, HC5.out, by omega, HB5.out⟩
end Go.Proofs.Ytpaacpcmijhcmaa
