/-
  Contract of the reference's Encode.
-/
import Derived.Test.YtpaacpcmijhcmaaScEnc
namespace Go.Proofs.Ytpaacpcmijhcmaa
open Go Go.RowKit

set_option maxHeartbeats 2000000 in
theorem rencode_any {w : World} {a : Option Addr} {L : Nat} {es : List (Int × Int)} (h : Ents w a L es) (c : Nat) (hL : L ≤ 4000) :
    Calls Try.prog 16 #[.slice a L c] w (Encoded es w) := by
  have hl := h.1
  subst hl
  have H := Lib.hid h
  clear h
  have hd : decide ((65536 : Int) < (es.length : Int)) = false := decide_eq_false (by omega)
  go_enter Try.func16, Try.ntmps16
  go_wp2_with fail
  clear hd
  go_loopw [4, 5] (fun b i wr => EncodeR w es b i wr) (fun _ i _ => es.length - (intOf i).toNat)
  case atStart => exact ⟨0, by omega, rfl, OwnB.nil _ _, rfl, Below.refl _ _⟩
  case round =>
    obtain ⟨k, hk, rfl, hown, hall, hb⟩ := hrel
    have HO := Lib.hid hown
    have HA := Lib.hid hall
    have HB := Lib.hid hb
    clear hown hall hb
    by_cases hlt : k < es.length
    · obtain ⟨x, k1, v1, rfl, he, hx, c0, c1⟩ := (H.out.below HB.out).at_ hlt
      have HE := Lib.hid he
      clear he
      obtain ⟨t, ht⟩ : ∃ t, okE (k1, v1) = t := ⟨_, rfl⟩
      have HT := Lib.hid ht
      clear ht
      go_wp2_with fail
      refine (rvalid_any k1 v1 _).mono ?_
      rintro e w2 ⟨rfl, hb2⟩
      have HB3 := Lib.hid (HB.out.trans (hb2.mono HB.out.size))
      have HO3 := Lib.hid (HO.out.below hb2)
      have d0 : w2.cell? (x.add (k * 2)) = some (.int .i64 k1) := (hb2.cell (by rw [block_add]; exact hx)).trans c0
      have d1 : w2.cell? ⟨(x.add (k * 2)).block, (x.add (k * 2)).off + 1, none⟩ = some (.int .i64 v1) := (hb2.cell (p := ⟨(x.add (k * 2)).block, (x.add (k * 2)).off + 1, none⟩) (by rw [block_add]; exact hx)).trans c1
      rw [HT.out]
      clear hb2 HB HO c0 c1
      cases t with
      | false =>
        go_wp2
        go_ret2
        exact ⟨_, [], _, rfl, OwnB.nil _ _, .inr ⟨all_not HE.out HT.out, rfl, rfl⟩, HB3.out⟩
      | true =>
        obtain ⟨h0, h1, h2, h3⟩ := okE_in HT.out
        have k0 : (0 : Int) ≤ (k : Int) := by omega
        have k1' : (k : Int) < (es.length : Int) := by omega
        have hwk : IntKind.u8.wrap k1 = k1 := IntWalk.u8_in _ (by omega)
        have hwv : IntKind.u8.wrap v1 = v1 := IntWalk.u8_in _ (by omega)
        have HW := Lib.hid (And.intro hwk hwv)
        clear hwk hwv
        have O1 := (HO3.out.alloc (.cells #[.int .u8 (IntKind.u8.wrap k1), .int .u8 (IntKind.u8.wrap v1)] 5)).drew
        have B1 := below_drew (HB3.out.alloc HB3.out.size (.cells #[.int .u8 (IntKind.u8.wrap k1), .int .u8 (IntKind.u8.wrap v1)] 5))
        have hs1 := B1.size
        have hlen : (bytesE (es.take k)).length + 2 ≤ 1000000 := by
          rw [bytesE_length, List.length_take]
          omega
        have HL := Lib.hid hlen
        clear hlen
        go_wp2_with fail
        go_region_law
          ((refine step_appB rfl _ _ rfl rfl O1 (ns := [IntKind.u8.wrap k1, IntKind.u8.wrap v1]) rfl rfl (two_cells_drew w2 _ _) HL.out hs1 ?_
            intro v3 w3 hown3 hg3
            have HB4 := Lib.hid (below_appB B1 O1 hg3)
            rw [HW.out.1, HW.out.2] at hown3
            have HO4 := Lib.hid hown3
            clear hown3 hg3 O1 B1 hs1))
        all_goals
          go_wp2_with fail
          go_roundw
          case rel => exact ⟨k + 1, by omega, by go_num, by rw [bytesE_step HE.out]; exact HO4.out, all_step HE.out HA.out HT.out, HB4.out⟩
          case measure => simp [intOf]; omega
    · obtain rfl : k = es.length := by omega
      rw [List.take_length] at HO HA
      go_wp2
      go_ret2
      exact ⟨_, _, _, rfl, HO.out, .inl ⟨HA.out, rfl, rfl⟩, HB.out⟩
end Go.Proofs.Ytpaacpcmijhcmaa
