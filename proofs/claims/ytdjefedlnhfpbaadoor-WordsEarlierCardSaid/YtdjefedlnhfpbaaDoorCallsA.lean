/-
  The contracts of math/bits.OnesCount64, Len64 and TrailingZeros64 as this program holds them.
-/
import Derived.Test.YtdjefedlnhfpbaaDoorRows
import Derived.Test.YtdjefedlnhfpbaaDoorPop
import Derived.WalkKit
import Derived.WalkSpells
import Derived.WalkLawsBesides
import Derived.Shelf.Strconv.Itoa0
namespace Go.Proofs.YtdjefedlnhfpbaaDoor
open Go Go.RowKit

theorem key1 (x : Nat) (hx : x < 18446744073709551616) : IntKind.u64.wrap (bits .and .u64 ((x : Int) / 2) 6148914691236517205 + bits .and .u64 (x : Int) 6148914691236517205) = ((s1 x : Nat) : Int) := by
  have a : bits .and .u64 ((x : Int) / 2) 6148914691236517205 = ((x / 2 &&& 6148914691236517205 : Nat) : Int) := bits_and_u64_nat (x / 2) 6148914691236517205 (by omega) (by decide)
  have b : bits .and .u64 (x : Int) 6148914691236517205 = ((x &&& 6148914691236517205 : Nat) : Int) := bits_and_u64_nat x 6148914691236517205 hx (by decide)
  have c := s1_lt x
  rw [a, b, IntKind.wrap_u64]
  unfold s1 at *
  omega

theorem key2 (x : Nat) : IntKind.u64.wrap (bits .and .u64 ((s1 x : Int) / 4) 3689348814741910323 + bits .and .u64 (s1 x : Int) 3689348814741910323) = ((s2 x : Nat) : Int) := by
  have hx := s1_lt x
  have a : bits .and .u64 ((s1 x : Int) / 4) 3689348814741910323 = ((s1 x / 4 &&& 3689348814741910323 : Nat) : Int) := bits_and_u64_nat (s1 x / 4) 3689348814741910323 (by omega) (by decide)
  have b : bits .and .u64 (s1 x : Int) 3689348814741910323 = ((s1 x &&& 3689348814741910323 : Nat) : Int) := bits_and_u64_nat (s1 x) 3689348814741910323 hx (by decide)
  have c := s2_le x
  rw [a, b, IntKind.wrap_u64]
  unfold s2 at *
  omega

theorem key3 (x : Nat) : bits .and .u64 (IntKind.u64.wrap ((s2 x : Int) / 16 + (s2 x : Int))) 1085102592571150095 = ((w8 x : Nat) : Int) := by
  have hx := s2_le x
  have e : IntKind.u64.wrap ((s2 x : Int) / 16 + (s2 x : Int)) = ((s2 x / 16 + s2 x : Nat) : Int) := by
    rw [IntKind.wrap_u64]; omega
  have a := bits_and_u64_nat (s2 x / 16 + s2 x) 1085102592571150095 (by omega) (by decide)
  rw [e, ← s3_eq]
  exact a

theorem wraps_i64 (n : Int) (h₀ : 0 ≤ n) (h₁ : n < 2 ^ 63) : IntKind.i64.wrap n = n := by rw [IntKind.wrap_i64]; omega

theorem key7 (v : Nat) (hv : v < 9223372036854775808) : bits .and .i64 (wrap64 (v : Int)) 127 = ((v % 128 : Nat) : Int) := by
  have h := bits_mask .i64 63 (by decide) wraps_i64 7 (by decide) (v : Int) (by omega) (by omega)
  have e : ((2 : Int) ^ 7 - 1) = 127 := by decide
  have e2 : ((2 : Int) ^ 7) = 128 := by decide
  rw [e, e2] at h
  have e3 : wrap64 (v : Int) = (v : Int) := by unfold wrap64; omega
  rw [e3, h]
  omega

set_option maxHeartbeats 400000 in
theorem onesCount64_any (x : Nat) (hx : x < 18446744073709551616) (w : World) :
    Calls Tryd.prog 30 #[.int .u64 (x : Int)] w fun e w' => e = .returned (.int .i64 (cntS x)) ∧ w = w' := by
  obtain ⟨t, ht, u, hu, v, hv, vl, ul, tl, hr⟩ := fold8 x
  have k1 := key1 x hx
  have k2 := key2 x
  have k3 := key3 x
  have k4 : IntKind.u64.wrap ((w8 x : Int) + (w8 x : Int) / 256) = (t : Int) := by rw [IntKind.wrap_u64]; omega
  have k5 : IntKind.u64.wrap ((t : Int) + (t : Int) / 65536) = (u : Int) := by rw [IntKind.wrap_u64]; omega
  have k6 : IntKind.u64.wrap ((u : Int) + (u : Int) / 4294967296) = (v : Int) := by rw [IntKind.wrap_u64]; omega
  have k7 := key7 v vl
  clear ht hu hv tl ul vl
  unfold cntS
  rw [← hr]
  clear hr
  go_enter Tryd.func30, Tryd.ntmps30
  go_wp2
  go_ret
  exact ⟨rfl, rfl⟩

/-- This program's numbers in the shelf's table for math/bits.Len64. -/
def lays129Ren : Go.Shelf.Ren := ⟨fun | 129 => 27 | n => n, fun | 53 => 22 | 3 => 3 | 4 => 4 | 46 => 29 | 5 => 5 | 9 => 9 | n => n, fun | n => n⟩

theorem lays129 : Go.Proofs.Lays.n129 Tryd.prog lays129Ren := {
  mixed := by kernel_rfl
  f129 := Tryd.func27.trans (congrArg some (by kernel_rfl))
  t3 := Tryd.underlying3
  a3 := Tryd.isAgg3
  z3 := Tryd.sizeOf3
  v3 := Tryd.zeroValue3
  t4 := Tryd.underlying4
  a4 := Tryd.isAgg4
  z4 := Tryd.sizeOf4
  v4 := Tryd.zeroValue4
  t5 := Tryd.underlying5
  a5 := Tryd.isAgg5
  z5 := Tryd.sizeOf5
  v5 := Tryd.zeroValue5
  t9 := Tryd.underlying9
  a9 := Tryd.isAgg9
  z9 := Tryd.sizeOf9
  v9 := Tryd.zeroValue9
  t46 := Tryd.underlying29
  a46 := Tryd.isAgg29
  z46 := Tryd.sizeOf29
  v46 := Tryd.zeroValue29
  t53 := Tryd.underlying22
  a53 := Tryd.isAgg22
  z53 := Tryd.sizeOf22
  v53 := Tryd.zeroValue22 }

theorem len64_any (x : Nat) (hx : x < 18446744073709551616) (w : World) :
    Calls Tryd.prog 27 #[.int .u64 (x : Int)] w fun e w' => e = .returned (.int .i64 (Lib.bitLen x : Nat)) ∧ w = w' := by
  refine (Any.bits_Len64 lays129 (x : Int) w (by omega) (by omega)).mono ?_
  rintro e w' ⟨rfl, rfl⟩
  exact ⟨rfl, rfl⟩

/-- The library's table, in its variable's cells. -/
def Tab (w : World) : Prop := ∀ j, j < 64 → w.cell? ⟨0, j, none⟩ = some (.int .u8 ((Lib.deBruijn64tab.getD j 0 : Nat) : Int))

theorem tzKey (x : Nat) (hx : x < 18446744073709551616) (h0 : x ≠ 0) : ∃ j : Nat, j < 64 ∧ Lib.deBruijn64tab.getD j 0 = Lib.ctz 64 x ∧
    IntKind.u64.wrap (bits .and .u64 (x : Int) (IntKind.u64.wrap (-(x : Int))) * 285870213051353865) / 288230376151711744 = (j : Int) := by
  obtain ⟨hlow, hk⟩ := Lib.lowest_bit 64 x h0 hx
  obtain ⟨hi, htab⟩ := Lib.deBruijn64_at _ hk
  refine ⟨_, hi, htab, ?_⟩
  have e1 : IntKind.u64.wrap (-(x : Int)) = ((18446744073709551616 - x : Nat) : Int) := by rw [IntKind.wrap_u64]; omega
  have e2 : x &&& (18446744073709551616 - x) = 2 ^ Lib.ctz 64 x := hlow
  rw [e1, bits_and_u64_nat x _ hx (by omega), e2, IntKind.wrap_u64]
  generalize 2 ^ Lib.ctz 64 x = a
  omega

set_option maxHeartbeats 400000 in
theorem trailingZeros64_any (x : Nat) (hx : x < 18446744073709551616) (h0 : x ≠ 0) (w : World) (hT : Tab w) :
    Calls Tryd.prog 29 #[.int .u64 (x : Int)] w fun e w' => e = .returned (.int .i64 (Lib.ctz 64 x : Nat)) ∧ w = w' := by
  obtain ⟨j, hj, ht, key⟩ := tzKey x hx h0
  have hc := hT j hj
  rw [ht] at hc
  have hl := (ctz_spec x h0 hx).2.2
  have hx0 : ((x : Int) == 0) = false := by simpa using h0
  clear hT ht h0
  generalize Lib.ctz 64 x = c at *
  go_enter Tryd.func29, Tryd.ntmps29
  go_wp2
  go_ret
  exact ⟨rfl, rfl⟩
end Go.Proofs.YtdjefedlnhfpbaaDoor
