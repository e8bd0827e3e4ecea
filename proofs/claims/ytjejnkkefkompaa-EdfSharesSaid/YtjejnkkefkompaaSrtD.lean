/-
  slices.Sort at uint64: the patterns broken.
-/
import Derived.Test.YtjejnkkefkompaaSrtC
import Derived.Sort.LotD5
import Derived.Shelf.Strconv.Itoa0
import Derived.WalkKit
import Derived.WalkSpells
import Derived.WalkLawsBesides
namespace Go.Proofs.Ytjejnkkefkompaa
open Go Go.RowKit Go.Sort
set_option linter.unusedSimpArgs false
set_option linter.unusedVariables false

theorem mul_u64 (x m : Nat) : IntKind.u64.wrap ((x : Int) * (m : Int)) = ((x * m % 18446744073709551616 : Nat) : Int) := by
  rw [IntKind.wrap_u64, ← Int.natCast_mul]
  generalize x * m = t
  omega
theorem xor_shl (x m : Nat) (hx : x < 18446744073709551616) : ∃ y : Nat, y < 18446744073709551616 ∧ bits .xor .u64 (x : Int) (IntKind.u64.wrap ((x : Int) * (m : Int))) = (y : Int) := by
  rw [mul_u64, u64_xor_nat _ _ hx (Nat.mod_lt _ (by decide))]
  exact ⟨_, Nat.xor_lt_two_pow (n := 64) hx (Nat.mod_lt _ (by decide)), rfl⟩
theorem xor_shr (x m : Nat) (hx : x < 18446744073709551616) : ∃ y : Nat, y < 18446744073709551616 ∧ bits .xor .u64 (x : Int) ((x : Int) / (m : Int)) = (y : Int) := by
  have h2 : x / m < 18446744073709551616 := Nat.lt_of_le_of_lt (Nat.div_le_self _ _) hx
  rw [show ((x : Int) / (m : Int)) = ((x / m : Nat) : Int) from rfl, u64_xor_nat _ _ hx h2]
  exact ⟨_, Nat.xor_lt_two_pow (n := 64) hx h2, rfl⟩
set_option maxRecDepth 100000 in
theorem next_any {w : World} {q x : Nat} (hc : w.cell? ⟨q, 0, none⟩ = some (.int .u64 (x : Int))) (hf : w.frozen? ⟨q, 0, none⟩ = false) (hx : x < 18446744073709551616) :
    Calls Try.prog 41 #[.pointer (some ⟨q, 0, none⟩)] w fun e w' => ∃ y : Nat, e = .returned (.int .u64 (y : Int)) ∧ y < 18446744073709551616 ∧ w'.cell? ⟨q, 0, none⟩ = some (.int .u64 (y : Int)) ∧ w'.frozen? ⟨q, 0, none⟩ = false ∧ Fr [q] w w' := by
  go_enter Try.func41, Try.ntmps41
  obtain ⟨x1, hx1, e1⟩ := xor_shl x 8192 hx
  obtain ⟨x2, hx2, e2⟩ := xor_shr x1 128 hx1
  obtain ⟨x3, hx3, e3⟩ := xor_shl x2 131072 hx2
  rw [show ((8192 : Nat) : Int) = 8192 from rfl] at e1
  rw [show ((128 : Nat) : Int) = 128 from rfl] at e2
  rw [show ((131072 : Nat) : Int) = 131072 from rfl] at e3
  have E1 := Lib.hid e1
  have E2 := Lib.hid e2
  have E3 := Lib.hid e3
  have hq : q < w.heap.size := World.block_lt_of_cell? _ _ hc
  clear e1 e2 e3
  go_upto_region 1 with fail
  go_region
  rw [E1.out]
  have c1 : (w.setCell ⟨q, 0, none⟩ (.int .u64 (x1 : Int))).drew.cell? ⟨q, 0, none⟩ = some (.int .u64 (x1 : Int)) := by go_simp
  have f1 : (w.setCell ⟨q, 0, none⟩ (.int .u64 (x1 : Int))).drew.frozen? ⟨q, 0, none⟩ = false := by go_simp
  have HF1 := Lib.hid (((Fr.refl [q] w).setCell (p := ⟨q, 0, none⟩) (.inl (List.mem_singleton.2 rfl)) (.int .u64 (x1 : Int))).drew)
  generalize (w.setCell ⟨q, 0, none⟩ (.int .u64 (x1 : Int))).drew = w1 at *
  clear hc hf
  go_upto_region 2 with fail
  go_region
  rw [E2.out]
  have c2 : (w1.setCell ⟨q, 0, none⟩ (.int .u64 (x2 : Int))).drew.cell? ⟨q, 0, none⟩ = some (.int .u64 (x2 : Int)) := by go_simp
  have f2 : (w1.setCell ⟨q, 0, none⟩ (.int .u64 (x2 : Int))).drew.frozen? ⟨q, 0, none⟩ = false := by go_simp
  have HF2 := Lib.hid ((HF1.out.setCell (p := ⟨q, 0, none⟩) (.inl (List.mem_singleton.2 rfl)) (.int .u64 (x2 : Int))).drew)
  generalize (w1.setCell ⟨q, 0, none⟩ (.int .u64 (x2 : Int))).drew = w2 at *
  clear c1 f1 HF1
  go_upto_region 3 with fail
  go_region
  rw [E3.out]
  have c3 : (w2.setCell ⟨q, 0, none⟩ (.int .u64 (x3 : Int))).drew.cell? ⟨q, 0, none⟩ = some (.int .u64 (x3 : Int)) := by go_simp
  have f3 : (w2.setCell ⟨q, 0, none⟩ (.int .u64 (x3 : Int))).drew.frozen? ⟨q, 0, none⟩ = false := by go_simp
  have HF3 := Lib.hid ((HF2.out.setCell (p := ⟨q, 0, none⟩) (.inl (List.mem_singleton.2 rfl)) (.int .u64 (x3 : Int))).drew)
  generalize (w2.setCell ⟨q, 0, none⟩ (.int .u64 (x3 : Int))).drew = w3 at *
  clear c2 f2 HF2
  go_wp2_with fail
  go_ret
  exact ⟨x3, rfl, hx3, c3, f3, HF3.out⟩

/-- This program's numbers in the shelf's table for math/bits.Len64. -/
def lays129sRen : Go.Shelf.Ren := ⟨fun | 129 => 38 | n => n, fun | 53 => 23 | 3 => 3 | 4 => 4 | 46 => 40 | 5 => 5 | 9 => 9 | n => n, fun | n => n⟩
theorem lays129s : Go.Proofs.Lays.n129 Try.prog lays129sRen := {
  mixed := by kernel_rfl
  f129 := Try.func38.trans (congrArg some (by kernel_rfl))
  t3 := Try.underlying3
  a3 := Try.isAgg3
  z3 := Try.sizeOf3
  v3 := Try.zeroValue3
  t4 := Try.underlying4
  a4 := Try.isAgg4
  z4 := Try.sizeOf4
  v4 := Try.zeroValue4
  t5 := Try.underlying5
  a5 := Try.isAgg5
  z5 := Try.sizeOf5
  v5 := Try.zeroValue5
  t9 := Try.underlying9
  a9 := Try.isAgg9
  z9 := Try.sizeOf9
  v9 := Try.zeroValue9
  t46 := Try.underlying40
  a46 := Try.isAgg40
  z46 := Try.sizeOf40
  v46 := Try.zeroValue40
  t53 := Try.underlying23
  a53 := Try.isAgg23
  z53 := Try.sizeOf23
  v53 := Try.zeroValue23 }
theorem len_any (x : Nat) (hx : x < 18446744073709551616) (w : World) :
    Calls Try.prog 27 #[.int .u64 (x : Int)] w fun e w' => ∃ k : Nat, e = .returned (.int .i64 (k : Int)) ∧ k = Lib.bitLen x ∧ w' = w := by
  have h64 : ∀ W : World, Calls Try.prog 38 #[.int .u64 (x : Int)] W fun e w' => e = .returned (.int .i64 (Lib.bitLen x : Nat)) ∧ W = w' := fun W => by
    refine (Any.bits_Len64 lays129s (x : Int) W (by omega) (by omega)).mono ?_
    rintro e w' ⟨rfl, rfl⟩
    exact ⟨rfl, rfl⟩
  go_enter Try.func27, Try.ntmps27
  go_wp2_with fail
  (with_reducible refine (h64 _).mono ?_)
  rintro e w' ⟨rfl, rfl⟩
  go_wp2
  go_ret
  exact ⟨_, rfl, rfl, rfl⟩
theorem bitLen_pow : ∀ (m x : Nat), x ≤ m → 0 < x → x < 2 ^ 64 → 2 ^ Lib.bitLen x ≤ 2 * x := by
  intro m
  induction m with
  | zero => intro x h1 h2; omega
  | succ m ih =>
    intro x h1 h2 h3
    rw [Lib.bitLen_half x (by omega) h3]
    by_cases h : x / 2 = 0
    · rw [h]
      have : Lib.bitLen 0 = 0 := by decide
      rw [this]
      omega
    · have := ih (x / 2) (by omega) (by omega) (by omega)
      rw [Nat.pow_add]
      omega
theorem shl_one (k : Nat) (h : k ≤ 63) : IntKind.u64.wrap ((2 : Int) ^ k) = ((2 ^ k : Nat) : Int) := by
  have h1 : (2 : Nat) ^ k ≤ 2 ^ 63 := Nat.pow_le_pow_right (by decide) h
  have e : ((2 : Int) ^ k) = ((2 ^ k : Nat) : Int) := by simp
  rw [e, IntKind.wrap_u64]
  generalize (2 : Nat) ^ k = t at h1 ⊢
  omega
theorem pow_any (n : Nat) (h0 : 0 < n) (hn : n ≤ 100000) (w : World) :
    Calls Try.prog 40 #[.int .i64 (n : Int)] w fun e w' => ∃ M : Nat, e = .returned (.int .u64 (M : Int)) ∧ 0 < M ∧ M ≤ 2 * n ∧ w' = w := by
  have hl := Lib.bitLen_le n 63 (by omega) (by omega)
  have hb := bitLen_pow n n (Nat.le_refl _) h0 (by omega)
  have hp : 0 < 2 ^ Lib.bitLen n := Nat.two_pow_pos _
  have hL := len_any n (by omega) w
  have s1 := shl_one (Lib.bitLen n) hl
  generalize Lib.bitLen n = k at *
  generalize 2 ^ k = M at *
  have hnI : (n : Int) ≤ 100000 := by omega
  have hkI : (k : Int) ≤ 63 := by omega
  go_enter Try.func40, Try.ntmps40
  go_wp2_with fail
  (with_reducible refine hL.mono ?_)
  rintro e w' ⟨k', rfl, rfl, rfl⟩
  go_wp2
  go_ret
  refine ⟨M, ?_, hp, hb, rfl⟩
  go_num
end Go.Proofs.Ytjejnkkefkompaa
