/-
  The contracts of Unpack and of its reference, and of the examples (awake).
-/
import Derived.Test.YtdjefedlnhfpbaaDoorCallsC
import Derived.Deep.QuietTactic
import Derived.BigQuiet
namespace Go.Proofs.YtdjefedlnhfpbaaDoor
open Go Go.RowKit

theorem ret_ints3 {a b c a' b' c' : Int} (h : a = a') (h' : b = b') (h'' : c = c') : Ending.returned (.tuple #[.int .i64 a, .int .i64 b, .int .i64 c]) = .returned (.tuple #[.int .i64 a', .int .i64 b', .int .i64 c']) := by rw [h, h', h'']

theorem unpack_k1 (x : Nat) : wrap64 (IntKind.u64.wrap ((x : Int) * 16777216) / 1099511627776) = (x : Int) / 65536 % 16777216 := by
  rw [IntKind.wrap_u64]
  unfold wrap64
  omega

theorem unpack_k2 (x : Nat) : wrap64 (IntKind.u16.wrap (x : Int)) = (x : Int) % 65536 := by
  have e : IntKind.u16.wrap (x : Int) = (x : Int) % 65536 := by simp [IntKind.wrap, IntKind.bits, IntKind.signed]
  rw [e]
  unfold wrap64
  omega

set_option maxHeartbeats 1000000 in
theorem unpack_any (x : Nat) (hx : x < 18446744073709551616) (w : World) :
    Calls Tryd.prog 25 #[.int .u64 (x : Int)] w fun e w' => e = .returned (.tuple #[.int .i64 ((x : Int) / 1099511627776), .int .i64 ((x : Int) / 65536 % 16777216), .int .i64 ((x : Int) % 65536)]) ∧ w = w' := by
  go_enter Tryd.func25, Tryd.ntmps25
  go_wp2
  go_ret3
  exact ⟨ret_ints3 rfl (unpack_k1 x) (unpack_k2 x), rfl⟩

set_option maxHeartbeats 1000000 in
theorem runpack_any (x : Nat) (hx : x < 18446744073709551616) (w : World) :
    Calls Tryd.prog 26 #[.int .u64 (x : Int)] w fun e w' => ∃ n, e = .returned (.tuple #[.int .i64 ((x : Int) / 1099511627776), .int .i64 ((x : Int) / 65536 % 16777216), .int .i64 ((x : Int) % 65536)]) ∧ w' = w.drewN n := by
  have p40 : Hid (∀ w, Calls Tryd.prog 32 #[.int .i64 40] w fun e w' => e = .returned (.int .u64 1099511627776) ∧ w' = w) := Lib.hid (fun w => (power_any 40 (by decide) w).mono fun e w' h => ⟨h.1, h.2.symm⟩)
  have p24 : Hid (∀ w, Calls Tryd.prog 32 #[.int .i64 24] w fun e w' => e = .returned (.int .u64 16777216) ∧ w' = w) := Lib.hid (fun w => (power_any 24 (by decide) w).mono fun e w' h => ⟨h.1, h.2.symm⟩)
  have p16 : Hid (∀ w, Calls Tryd.prog 32 #[.int .i64 16] w fun e w' => e = .returned (.int .u64 65536) ∧ w' = w) := Lib.hid (fun w => (power_any 16 (by decide) w).mono fun e w' h => ⟨h.1, h.2.symm⟩)
  go_enter Tryd.func26, Tryd.ntmps26
  go_wp2
  go_quiet ((first | (go_at_call 32; with_reducible exact Calls.quiet_of_same (p40.out _)) | (go_at_call 32; with_reducible exact Calls.quiet_of_same (p24.out _)) | (go_at_call 32; with_reducible exact Calls.quiet_of_same (p16.out _))))
  go_wp2
  go_ret3
  exact ⟨nq, rfl, rfl⟩

theorem awake_hi : hiS 44 = 5 := by decide
theorem awake_lo : loS 44 = 2 := by decide
theorem awake_cnt : cntS 44 = 3 := by decide
theorem awake_nth : nthS 44 1 = 3 := by decide
theorem awake_span : spanS 2 5 = 28 := by decide
theorem awake_class : classS 5 8 4 = 2 := by decide
theorem awake_key : keyS 1 2 3 = 1099511758851 := by decide

set_option maxHeartbeats 1000000 in
theorem awake_any (w : World) (hT : Tab w) :
    Calls Tryd.prog 10 #[] w fun e w' => e = .returned (.bool true) ∧ w = w' := by
  have c1 : Hid (∀ w, Calls Tryd.prog 23 #[.int .i64 1, .int .i64 2, .int .i64 3] w fun e w' => e = .returned (.tuple #[.int .u64 1099511758851, .bool true]) ∧ w = w') :=
    Lib.hid (fun w => pack_ok 1 2 3 (by unfold Keyed; decide) w)
  have c2 : Hid (Calls Tryd.prog 11 #[.int .u64 44] w fun e w' => e = .returned (.int .i64 5) ∧ w = w') := Lib.hid (awake_hi ▸ high_any 44 (by decide) w)
  have c3 : Hid (Calls Tryd.prog 13 #[.int .u64 44] w fun e w' => e = .returned (.int .i64 2) ∧ w = w') := Lib.hid (awake_lo ▸ low_any 44 (by decide) w hT)
  have c4 : Hid (Calls Tryd.prog 15 #[.int .u64 44] w fun e w' => e = .returned (.int .i64 3) ∧ w = w') := Lib.hid (awake_cnt ▸ count_any 44 (by decide) w)
  have c5 : Hid (Calls Tryd.prog 17 #[.int .u64 44, .int .i64 1] w fun e w' => e = .returned (.int .i64 3) ∧ w = w') := Lib.hid (awake_nth ▸ nth_any 44 1 (by decide) (by decide) w)
  have c6 : Hid (Calls Tryd.prog 19 #[.int .i64 2, .int .i64 5] w fun e w' => e = .returned (.int .u64 28) ∧ w = w') := Lib.hid (by have h := span_any 2 5 w; rw [awake_span] at h; exact h)
  have c7 : Hid (Calls Tryd.prog 21 #[.int .i64 5, .int .i64 8, .int .i64 4] w fun e w' => e = .returned (.int .i64 2) ∧ w = w') := Lib.hid (awake_class ▸ class_any 5 8 4 w)
  clear hT
  go_enter Tryd.func10, Tryd.ntmps10
  go_wp2_with fail
  refine (c1.out _).mono ?_
  rintro e w' ⟨rfl, rfl⟩
  go_wp2_with fail
  refine c2.out.mono ?_
  rintro e w' ⟨rfl, rfl⟩
  go_wp2_with fail
  refine c3.out.mono ?_
  rintro e w' ⟨rfl, rfl⟩
  go_wp2_with fail
  refine c4.out.mono ?_
  rintro e w' ⟨rfl, rfl⟩
  go_wp2_with fail
  refine c5.out.mono ?_
  rintro e w' ⟨rfl, rfl⟩
  go_wp2_with fail
  refine c6.out.mono ?_
  rintro e w' ⟨rfl, rfl⟩
  go_wp2_with fail
  refine c7.out.mono ?_
  rintro e w' ⟨rfl, rfl⟩
  go_wp2
  go_ret
  exact ⟨rfl, rfl⟩
end Go.Proofs.YtdjefedlnhfpbaaDoor
