/-
  The walk of the statement WordsKeys: it returns true.
-/
import Derived.Test.YtdjefedlnhfpbaaDoorCallsD
namespace Go.Proofs.YtdjefedlnhfpbaaDoor
open Go Go.RowKit

theorem tmod_bd (d n : Int) (hn : 0 < n) : -n < d.tmod n ∧ d.tmod n < n := by
  have h1 := Int.tmod_lt_of_pos d hn
  have h2 := Int.tmod_lt_of_pos (-d) hn
  rw [Int.neg_tmod] at h2
  omega

theorem tab_drewN {w : World} (h : Tab w) (n : Nat) : Tab (w.drewN n) := fun j hj => by
  have := h j hj
  simpa using this

theorem keyS_nat (d a t : Int) (h : Keyed d a t) : ∃ K : Nat, keyS d a t = (K : Int) ∧ K < 18446744073709551616 ∧ (K : Int) / 1099511627776 = d ∧ (K : Int) / 65536 % 16777216 = a ∧ (K : Int) % 65536 = t := by
  obtain ⟨⟨d0, d1⟩, ⟨a0, a1⟩, t0, t1⟩ := h
  have hk : keyS d a t = d * 1099511627776 + a * 65536 + t := rfl
  refine ⟨(keyS d a t).toNat, ?_, ?_, ?_, ?_, ?_⟩ <;> omega

set_option maxHeartbeats 1000000 in
theorem keys_far (d a t : Int) (h : Keyed d a t) (k : Nat) (hk : k < 18446744073709551616) (w : World) (hT : Tab w) :
    Calls Tryd.prog 8 #[.int .i64 d, .int .i64 a, .int .i64 t, .int .u64 (k : Int), .bool false] w fun e w' => e = .returned (.bool true) ∧ ∃ n, w' = w.drewN n := by
  have HT := Lib.hid hT
  clear hT
  have H := Lib.hid h
  obtain ⟨K, e1, e2, e3, e4, e5⟩ := keyS_nat d a t h
  clear h
  have E1 := Lib.hid e1
  have E3 := Lib.hid e3
  have E4 := Lib.hid e4
  have E5 := Lib.hid e5
  clear e1 e3 e4 e5
  go_enter Tryd.func8, Tryd.ntmps8
  go_wp2_with fail
  refine (pack_ok _ _ _ H.out _).mono ?_
  rw [E1.out]
  rintro e w' ⟨rfl, rfl⟩
  go_wp2_with fail
  refine (rpack_ok _ _ _ H.out _).mono ?_
  rw [E1.out]
  rintro e w' ⟨rfl, rfl⟩
  go_wp2_with fail
  refine (unpack_any k hk _).mono ?_
  rintro e w' ⟨rfl, rfl⟩
  go_wp2_with fail
  refine (runpack_any k hk _).mono ?_
  rintro e w' ⟨n, rfl, rfl⟩
  go_wp2_with fail
  refine (awake_any _ (tab_drewN HT.out n)).mono ?_
  rintro e w' ⟨rfl, rfl⟩
  go_wp2_with fail
  refine (unpack_any K e2 _).mono ?_
  rw [E3.out, E4.out, E5.out]
  rintro e w' ⟨rfl, rfl⟩
  go_wp2
  go_ret
  exact ⟨rfl, n, rfl⟩

set_option maxHeartbeats 1000000 in
theorem keys_none (d a t : Int) (h : ¬ Keyed d a t) (k : Nat) (hk : k < 18446744073709551616) (w : World) (hT : Tab w) :
    Calls Tryd.prog 8 #[.int .i64 d, .int .i64 a, .int .i64 t, .int .u64 (k : Int), .bool false] w fun e w' => e = .returned (.bool true) ∧ ∃ n, w' = w.drewN n := by
  have HT := Lib.hid hT
  clear hT
  have H := Lib.hid h
  clear h
  go_enter Tryd.func8, Tryd.ntmps8
  go_wp2_with fail
  refine (pack_no _ _ _ H.out _).mono ?_
  rintro e w' ⟨rfl, rfl⟩
  go_wp2_with fail
  refine (rpack_no _ _ _ H.out _).mono ?_
  rintro e w' ⟨rfl, rfl⟩
  go_wp2_with fail
  refine (unpack_any k hk _).mono ?_
  rintro e w' ⟨rfl, rfl⟩
  go_wp2_with fail
  refine (runpack_any k hk _).mono ?_
  rintro e w' ⟨n, rfl, rfl⟩
  go_wp2_with fail
  refine (awake_any _ (tab_drewN HT.out n)).mono ?_
  rintro e w' ⟨rfl, rfl⟩
  go_wp2_with fail
  refine (unpack_any 0 (by decide) _).mono ?_
  rintro e w' ⟨rfl, rfl⟩
  go_wp2
  go_ret
  exact ⟨rfl, n, rfl⟩

set_option maxHeartbeats 1000000 in
theorem keys_near (d a t : Int) (k : Nat) (hk : k < 18446744073709551616) (w : World) (hT : Tab w) :
    Calls Tryd.prog 8 #[.int .i64 d, .int .i64 a, .int .i64 t, .int .u64 (k : Int), .bool true] w fun e w' => e = .returned (.bool true) ∧ ∃ n, w' = w.drewN n := by
  have HT := Lib.hid hT
  clear hT
  obtain ⟨d0, d1⟩ := tmod_bd d 16777216 (by decide)
  obtain ⟨a0, a1⟩ := tmod_bd a 16777216 (by decide)
  obtain ⟨t0, t1⟩ := tmod_bd t 65536 (by decide)
  have hD : (d.tmod 16777216 + 16777216) % 16777216 = d.tmod 16777216 % 16777216 := by omega
  have hA : (a.tmod 16777216 + 16777216) % 16777216 = a.tmod 16777216 % 16777216 := by omega
  have hT : (t.tmod 65536 + 65536) % 65536 = t.tmod 65536 % 65536 := by omega
  obtain ⟨D, hD'⟩ : ∃ D, d.tmod 16777216 % 16777216 = D := ⟨_, rfl⟩
  obtain ⟨A, hA'⟩ : ∃ A, a.tmod 16777216 % 16777216 = A := ⟨_, rfl⟩
  obtain ⟨T, hT'⟩ : ∃ T, t.tmod 65536 % 65536 = T := ⟨_, rfl⟩
  rw [hD'] at hD
  rw [hA'] at hA
  rw [hT'] at hT
  have h : Keyed D A T := by unfold Keyed; omega
  have H := Lib.hid h
  obtain ⟨K, e1, e2, e3, e4, e5⟩ := keyS_nat _ _ _ h
  clear h
  have E1 := Lib.hid e1
  have E3 := Lib.hid e3
  have E4 := Lib.hid e4
  have E5 := Lib.hid e5
  clear e1 e3 e4 e5
  go_enter Tryd.func8, Tryd.ntmps8
  go_wp2_with fail
  refine (pack_ok D A T H.out _).mono ?_
  rw [E1.out]
  rintro e w' ⟨rfl, rfl⟩
  go_wp2_with fail
  refine (rpack_ok _ _ _ H.out _).mono ?_
  rw [E1.out]
  rintro e w' ⟨rfl, rfl⟩
  go_wp2_with fail
  refine (unpack_any k hk _).mono ?_
  rintro e w' ⟨rfl, rfl⟩
  go_wp2_with fail
  refine (runpack_any k hk _).mono ?_
  rintro e w' ⟨n, rfl, rfl⟩
  go_wp2_with fail
  refine (awake_any _ (tab_drewN HT.out n)).mono ?_
  rintro e w' ⟨rfl, rfl⟩
  go_wp2_with fail
  refine (unpack_any K e2 _).mono ?_
  rw [E3.out, E4.out, E5.out]
  rintro e w' ⟨rfl, rfl⟩
  go_wp2
  go_ret
  exact ⟨rfl, n, rfl⟩

theorem keys_law (d a t : Int) (k : Nat) (near : Bool) (hk : k < 18446744073709551616) (w : World) (hT : Tab w) :
    Calls Tryd.prog 8 #[.int .i64 d, .int .i64 a, .int .i64 t, .int .u64 (k : Int), .bool near] w fun e w' => e = .returned (.bool true) ∧ ∃ n, w' = w.drewN n := by
  cases near
  · by_cases h : Keyed d a t
    · exact keys_far d a t h k hk w hT
    · exact keys_none d a t h k hk w hT
  · exact keys_near d a t k hk w hT
end Go.Proofs.YtdjefedlnhfpbaaDoor
