/-
  Plain arithmetic, with no Go in sight: the parallel count of the bits that are 1 (pairs, nibbles, bytes, then the sum of the bytes) is the count bit by bit.
-/
import Derived.Test.YtdjefedlnhfpbaaDoorMath
namespace Go.Proofs.YtdjefedlnhfpbaaDoor
open Go

/-- g of each of the n lowest bytes of x. -/
def bmap (g : Nat → Nat) : Nat → Nat → Nat
  | 0, _ => 0
  | n + 1, x => g (x % 256) + 256 * bmap g n (x / 256)

/-- A byte, n times. -/
def rep (m : Nat) : Nat → Nat
  | 0 => 0
  | n + 1 => m + 256 * rep m n

theorem and_split (m M x : Nat) (hm : m < 256) : x &&& (m + 256 * M) = (x % 256 &&& m) + 256 * (x / 256 &&& M) := by
  have hlt : x % 256 &&& m < 2 ^ 8 := Nat.and_lt_two_pow _ hm
  apply Nat.eq_of_testBit_eq
  intro j
  rw [Nat.add_comm m, Nat.add_comm (x % 256 &&& m), show (256 : Nat) = 2 ^ 8 from rfl]
  rw [Nat.testBit_and, Nat.testBit_two_pow_mul_add _ hm, Nat.testBit_two_pow_mul_add _ hlt]
  split
  · rename_i h
    rw [Nat.testBit_and, show (256 : Nat) = 2 ^ 8 from rfl, Nat.testBit_mod_two_pow]
    simp [h]
  · rename_i h
    rw [Nat.testBit_and, Nat.testBit_div_two_pow]
    congr 2
    omega

/-- A shift within the bytes: what comes in from the next byte is masked away. -/
theorem shr_and_split (s m M x : Nat) (hm : m < 2 ^ (8 - s)) (hs : s ≤ 8) : x / 2 ^ s &&& (m + 256 * M) = (x % 256 / 2 ^ s &&& m) + 256 * (x / 256 / 2 ^ s &&& M) := by
  have hm8 : m < 256 := Nat.lt_of_lt_of_le hm (Nat.pow_le_pow_right (by decide) (by omega : 8 - s ≤ 8))
  rw [and_split m M _ hm8]
  have e1 : x / 2 ^ s / 256 = x / 256 / 2 ^ s := by rw [Nat.div_div_eq_div_mul, Nat.div_div_eq_div_mul, Nat.mul_comm]
  rw [e1]
  congr 1
  apply Nat.eq_of_testBit_eq
  intro j
  rw [Nat.testBit_and, Nat.testBit_and]
  by_cases hj : j < 8 - s
  · congr 1
    rw [show (256 : Nat) = 2 ^ 8 from rfl, Nat.testBit_mod_two_pow, Nat.testBit_div_two_pow, Nat.testBit_div_two_pow, Nat.testBit_mod_two_pow]
    have h1 : j < 8 := by omega
    have h2 : j + s < 8 := by omega
    simp [h1, h2]
  · have : m.testBit j = false := Nat.testBit_lt_two_pow (Nat.lt_of_lt_of_le hm (Nat.pow_le_pow_right (by decide) (by omega)))
    simp [this]

def f1 (b : Nat) : Nat := (b / 2 &&& 85) + (b &&& 85)
def f2 (b : Nat) : Nat := (b / 4 &&& 51) + (b &&& 51)
def f3 (b : Nat) : Nat := b % 16 + b / 16

theorem step1 : ∀ n x, (x / 2 &&& rep 85 n) + (x &&& rep 85 n) = bmap f1 n x
  | 0, x => by simp [rep, bmap]
  | n + 1, x => by
    have a := shr_and_split 1 85 (rep 85 n) x (by decide) (by decide)
    have b := and_split 85 (rep 85 n) x (by decide)
    have ih := step1 n (x / 256)
    simp only [Nat.pow_one] at a
    rw [rep, a, b, bmap, ← ih]
    unfold f1
    omega

theorem step2 : ∀ n x, (x / 4 &&& rep 51 n) + (x &&& rep 51 n) = bmap f2 n x
  | 0, x => by simp [rep, bmap]
  | n + 1, x => by
    have a := shr_and_split 2 51 (rep 51 n) x (by decide) (by decide)
    have b := and_split 51 (rep 51 n) x (by decide)
    have ih := step2 n (x / 256)
    simp only [show (2 : Nat) ^ 2 = 4 from rfl] at a
    rw [rep, a, b, bmap, ← ih]
    unfold f2
    omega

theorem bmap_lt (g : Nat → Nat) (hg : ∀ b, b < 256 → g b < 256) : ∀ n x, bmap g n x < 256 ^ n
  | 0, x => by simp [bmap]
  | n + 1, x => by
    have := bmap_lt g hg n (x / 256)
    have h := hg (x % 256) (Nat.mod_lt _ (by decide))
    rw [bmap, Nat.pow_succ]
    omega

theorem bmap_comp (g h : Nat → Nat) (hg : ∀ b, b < 256 → g b < 256) : ∀ n x, bmap h n (bmap g n x) = bmap (fun b => h (g b)) n x
  | 0, x => rfl
  | n + 1, x => by
    have ih := bmap_comp g h hg n (x / 256)
    have hb := hg (x % 256) (Nat.mod_lt _ (by decide))
    have e1 : (g (x % 256) + 256 * bmap g n (x / 256)) % 256 = g (x % 256) := by omega
    have e2 : (g (x % 256) + 256 * bmap g n (x / 256)) / 256 = bmap g n (x / 256) := by omega
    rw [bmap, bmap, bmap, e1, e2, ih]

/-- Bytes whose nibbles are at most 4: the sum of neighbouring nibbles carries nothing. -/
theorem step3 (g : Nat → Nat) (hg : ∀ b, b < 256 → g b % 16 ≤ 4 ∧ g b / 16 ≤ 4) :
    ∀ n x, (bmap g n x / 16 + bmap g n x) &&& rep 15 n = bmap (fun b => f3 (g b)) n x ∧ bmap g n x % 16 ≤ 4
  | 0, x => by simp [rep, bmap]
  | n + 1, x => by
    obtain ⟨ih, hl⟩ := step3 g hg n (x / 256)
    have hb := hg (x % 256) (Nat.mod_lt _ (by decide))
    rw [rep, bmap, bmap, ← ih]
    generalize bmap g n (x / 256) = q at hl ⊢
    generalize g (x % 256) = r at hb ⊢
    refine ⟨?_, by omega⟩
    rw [and_split 15 _ _ (by decide)]
    have e1 : ((r + 256 * q) / 16 + (r + 256 * q)) / 256 = q / 16 + q := by omega
    have e2 : ((r + 256 * q) / 16 + (r + 256 * q)) % 256 &&& 15 = r % 16 + r / 16 := by
      rw [show (15 : Nat) = 2 ^ 4 - 1 from rfl, Nat.and_two_pow_sub_one_eq_mod]
      omega
    rw [e1, e2, f3]

theorem f12_ok : ∀ b, b < 256 → f1 b < 256 ∧ f2 (f1 b) % 16 ≤ 4 ∧ f2 (f1 b) / 16 ≤ 4 ∧ f3 (f2 (f1 b)) = cntF b 8 := by decide +kernel

/-- The sum of the bits of the n lowest bytes. -/
def sumB : Nat → Nat → Nat
  | 0, _ => 0
  | n + 1, x => cntF (x % 256) 8 + sumB n (x / 256)

theorem cntF_congr (x y : Nat) : ∀ k, (∀ j, j < k → bitB x j = bitB y j) → cntF x k = cntF y k
  | 0, _ => rfl
  | k + 1, h => by rw [cntF, cntF, cntF_congr x y k (fun j hj => h j (by omega)), h k (by omega)]

theorem cntF_add (x a : Nat) : ∀ m, cntF x (a + m) = cntF x a + cntF (x / 2 ^ a) m
  | 0 => rfl
  | m + 1 => by
    have e : bitB (x / 2 ^ a) m = bitB x (a + m) := by
      unfold bitB
      rw [Nat.testBit_div_two_pow, Nat.add_comm]
    rw [← Nat.add_assoc, cntF, cntF, cntF_add x a m, e]
    omega

theorem sumB_eq : ∀ n x, cntF x (8 * n) = sumB n x
  | 0, _ => rfl
  | n + 1, x => by
    have e : cntF x 8 = cntF (x % 256) 8 := by
      apply cntF_congr
      intro j hj
      unfold bitB
      rw [show (256 : Nat) = 2 ^ 8 from rfl, Nat.testBit_mod_two_pow]
      simp [hj]
    rw [show 8 * (n + 1) = 8 + 8 * n by omega, cntF_add, sumB, e, show (2 : Nat) ^ 8 = 256 from rfl, sumB_eq n (x / 256)]

/-- The bytes' counts, one in each byte. -/
def w8 (x : Nat) : Nat := bmap (fun b => cntF b 8) 8 x

theorem bmap_congr (g h : Nat → Nat) (e : ∀ b, b < 256 → g b = h b) : ∀ n x, bmap g n x = bmap h n x
  | 0, _ => rfl
  | n + 1, x => by rw [bmap, bmap, e _ (Nat.mod_lt _ (by decide)), bmap_congr g h e n]

def s1 (x : Nat) : Nat := (x / 2 &&& 6148914691236517205) + (x &&& 6148914691236517205)
def s2 (x : Nat) : Nat := (s1 x / 4 &&& 3689348814741910323) + (s1 x &&& 3689348814741910323)
def s3 (x : Nat) : Nat := (s2 x / 16 + s2 x) &&& 1085102592571150095

theorem s1_eq (x : Nat) : s1 x = bmap f1 8 x := step1 8 x
theorem s2_eq (x : Nat) : s2 x = bmap (fun b => f2 (f1 b)) 8 x := by
  unfold s2
  rw [s1_eq]
  exact (step2 8 _).trans (bmap_comp f1 f2 (fun b hb => (f12_ok b hb).1) 8 x)
theorem s3_eq (x : Nat) : s3 x = w8 x := by
  unfold s3
  rw [s2_eq]
  refine ((step3 (fun b => f2 (f1 b)) (fun b hb => ⟨(f12_ok b hb).2.1, (f12_ok b hb).2.2.1⟩) 8 x).1).trans ?_
  exact bmap_congr _ _ (fun b hb => (f12_ok b hb).2.2.2) 8 x

theorem s1_lt (x : Nat) : s1 x < 18446744073709551616 := by
  rw [s1_eq]; exact bmap_lt f1 (fun b hb => (f12_ok b hb).1) 8 x
theorem s2_le (x : Nat) : s2 x ≤ 7378697629483820646 := by
  have a : s1 x / 4 &&& 3689348814741910323 ≤ 3689348814741910323 := Nat.and_le_right
  have b : s1 x &&& 3689348814741910323 ≤ 3689348814741910323 := Nat.and_le_right
  unfold s2
  omega

/-- The bytes' counts, added up: three additions, each by the digits. -/
theorem fold_t (e0 e1 e2 e3 e4 e5 e6 e7 W : Nat) (k0 : e0 ≤ 8) (hW : W = e0 + 256 * (e1 + 256 * (e2 + 256 * (e3 + 256 * (e4 + 256 * (e5 + 256 * (e6 + 256 * e7))))))) :
    W + W / 256 = (e0 + e1) + 256 * ((e1 + e2) + 256 * ((e2 + e3) + 256 * ((e3 + e4) + 256 * ((e4 + e5) + 256 * ((e5 + e6) + 256 * ((e6 + e7) + 256 * e7)))))) := by
  have d1 : W / 256 = e1 + 256 * (e2 + 256 * (e3 + 256 * (e4 + 256 * (e5 + 256 * (e6 + 256 * e7))))) := by omega
  rw [d1, hW]
  omega

theorem fold_u (a0 a1 a2 a3 a4 a5 a6 a7 T : Nat) (k0 : a0 ≤ 16) (k1 : a1 ≤ 16) (hT : T = a0 + 256 * (a1 + 256 * (a2 + 256 * (a3 + 256 * (a4 + 256 * (a5 + 256 * (a6 + 256 * a7))))))) :
    T + T / 65536 = (a0 + a2) + 256 * ((a1 + a3) + 256 * ((a2 + a4) + 256 * ((a3 + a5) + 256 * ((a4 + a6) + 256 * ((a5 + a7) + 256 * (a6 + 256 * a7)))))) := by
  have d1 : T / 65536 = a2 + 256 * (a3 + 256 * (a4 + 256 * (a5 + 256 * (a6 + 256 * a7)))) := by omega
  rw [d1, hT]
  omega

theorem fold_v (c0 c1 c2 c3 c4 c5 c6 c7 U : Nat) (k0 : c0 ≤ 32) (k1 : c1 ≤ 32) (k2 : c2 ≤ 32) (k3 : c3 ≤ 32) (hU : U = c0 + 256 * (c1 + 256 * (c2 + 256 * (c3 + 256 * (c4 + 256 * (c5 + 256 * (c6 + 256 * c7))))))) :
    U + U / 4294967296 = (c0 + c4) + 256 * ((c1 + c5) + 256 * ((c2 + c6) + 256 * ((c3 + c7) + 256 * (c4 + 256 * (c5 + 256 * (c6 + 256 * c7)))))) := by
  have d1 : U / 4294967296 = c4 + 256 * (c5 + 256 * (c6 + 256 * c7)) := by omega
  rw [d1, hU]
  omega

theorem small8 (a0 a1 a2 a3 a4 a5 a6 a7 : Nat) (k0 : a0 ≤ 64) (k1 : a1 ≤ 64) (k2 : a2 ≤ 64) (k3 : a3 ≤ 64) (k4 : a4 ≤ 64) (k5 : a5 ≤ 64) (k6 : a6 ≤ 64) (k7 : a7 ≤ 64) :
    a0 + 256 * (a1 + 256 * (a2 + 256 * (a3 + 256 * (a4 + 256 * (a5 + 256 * (a6 + 256 * a7)))))) < 9223372036854775808 := by omega

theorem low7 (a r : Nat) (k : a ≤ 64) : (a + 256 * r) % 128 = a := by omega

theorem fold_end (e0 e1 e2 e3 e4 e5 e6 e7 T : Nat) (k0 : e0 ≤ 8) (k1 : e1 ≤ 8) (k2 : e2 ≤ 8) (k3 : e3 ≤ 8) (k4 : e4 ≤ 8) (k5 : e5 ≤ 8) (k6 : e6 ≤ 8) (k7 : e7 ≤ 8)
    (ht : T = (e0 + e1) + 256 * ((e1 + e2) + 256 * ((e2 + e3) + 256 * ((e3 + e4) + 256 * ((e4 + e5) + 256 * ((e5 + e6) + 256 * ((e6 + e7) + 256 * e7))))))) :
    (T + T / 65536) + (T + T / 65536) / 4294967296 < 9223372036854775808 ∧ T + T / 65536 < 9223372036854775808 ∧ T < 9223372036854775808 ∧
    ((T + T / 65536) + (T + T / 65536) / 4294967296) % 128 = e0 + (e1 + (e2 + (e3 + (e4 + (e5 + (e6 + (e7 + 0))))))) := by
  have q01 : e0 + e1 ≤ 16 := Nat.add_le_add k0 k1
  have q12 : e1 + e2 ≤ 16 := Nat.add_le_add k1 k2
  have q23 : e2 + e3 ≤ 16 := Nat.add_le_add k2 k3
  have q34 : e3 + e4 ≤ 16 := Nat.add_le_add k3 k4
  have q45 : e4 + e5 ≤ 16 := Nat.add_le_add k4 k5
  have q56 : e5 + e6 ≤ 16 := Nat.add_le_add k5 k6
  have q67 : e6 + e7 ≤ 16 := Nat.add_le_add k6 k7
  have hu := fold_u _ _ _ _ _ _ _ _ _ q01 q12 ht
  have r0 : e0 + e1 + (e2 + e3) ≤ 32 := Nat.add_le_add q01 q23
  have r1 : e1 + e2 + (e3 + e4) ≤ 32 := Nat.add_le_add q12 q34
  have r2 : e2 + e3 + (e4 + e5) ≤ 32 := Nat.add_le_add q23 q45
  have r3 : e3 + e4 + (e5 + e6) ≤ 32 := Nat.add_le_add q34 q56
  have r4 : e4 + e5 + (e6 + e7) ≤ 32 := Nat.add_le_add q45 q67
  have r5 : e5 + e6 + e7 ≤ 32 := Nat.add_le_add q56 (Nat.le_trans k7 (show 8 ≤ 16 by decide))
  have hv := fold_v _ _ _ _ _ _ _ _ _ r0 r1 r2 r3 hu
  have w16 : ∀ {a : Nat}, a ≤ 16 → a ≤ 64 := fun h => Nat.le_trans h (by decide)
  have w32 : ∀ {a : Nat}, a ≤ 32 → a ≤ 64 := fun h => Nat.le_trans h (by decide)
  have w8' : ∀ {a : Nat}, a ≤ 8 → a ≤ 64 := fun h => Nat.le_trans h (by decide)
  rw [hv, hu]
  refine ⟨small8 _ _ _ _ _ _ _ _ (Nat.add_le_add r0 r4) (Nat.add_le_add r1 r5) ?_ ?_ (w32 r4) (w32 r5) (w16 q67) (w8' k7), small8 _ _ _ _ _ _ _ _ (w32 r0) (w32 r1) (w32 r2) (w32 r3) (w32 r4) (w32 r5) (w16 q67) (w8' k7), ?_, ?_⟩
  · clear hu hv ht; omega
  · clear hu hv ht; omega
  · rw [ht]; exact small8 _ _ _ _ _ _ _ _ (w16 q01) (w16 q12) (w16 q23) (w16 q34) (w16 q45) (w16 q56) (w16 q67) (w8' k7)
  · rw [low7 _ _ (Nat.add_le_add r0 r4)]; clear hu hv ht; omega

theorem fold8 (x : Nat) : ∃ t, t = w8 x + w8 x / 256 ∧ ∃ u, u = t + t / 65536 ∧ ∃ v, v = u + u / 4294967296 ∧ v < 9223372036854775808 ∧ u < 9223372036854775808 ∧ t < 9223372036854775808 ∧ v % 128 = cntF x 64 := by
  refine ⟨_, rfl, _, rfl, _, rfl, ?_⟩
  have hs := sumB_eq 8 x
  have hw : w8 x = bmap (fun b => cntF b 8) 8 x := rfl
  simp only [bmap] at hw
  simp only [sumB] at hs
  rw [show 8 * 8 = 64 from rfl] at hs
  have k0 := cntF_le (x % 256) 8
  have k1 := cntF_le (x / 256 % 256) 8
  have k2 := cntF_le (x / 256 / 256 % 256) 8
  have k3 := cntF_le (x / 256 / 256 / 256 % 256) 8
  have k4 := cntF_le (x / 256 / 256 / 256 / 256 % 256) 8
  have k5 := cntF_le (x / 256 / 256 / 256 / 256 / 256 % 256) 8
  have k6 := cntF_le (x / 256 / 256 / 256 / 256 / 256 / 256 % 256) 8
  have k7 := cntF_le (x / 256 / 256 / 256 / 256 / 256 / 256 / 256 % 256) 8
  rw [Nat.mul_zero, Nat.add_zero] at hw
  rw [hs]
  clear hs
  generalize cntF (x % 256) 8 = e0 at *
  generalize cntF (x / 256 % 256) 8 = e1 at *
  generalize cntF (x / 256 / 256 % 256) 8 = e2 at *
  generalize cntF (x / 256 / 256 / 256 % 256) 8 = e3 at *
  generalize cntF (x / 256 / 256 / 256 / 256 % 256) 8 = e4 at *
  generalize cntF (x / 256 / 256 / 256 / 256 / 256 % 256) 8 = e5 at *
  generalize cntF (x / 256 / 256 / 256 / 256 / 256 / 256 % 256) 8 = e6 at *
  generalize cntF (x / 256 / 256 / 256 / 256 / 256 / 256 / 256 % 256) 8 = e7 at *
  have ht := fold_t e0 e1 e2 e3 e4 e5 e6 e7 (w8 x) k0 hw
  clear hw
  exact fold_end _ _ _ _ _ _ _ _ _ k0 k1 k2 k3 k4 k5 k6 k7 ht

end Go.Proofs.YtdjefedlnhfpbaaDoor
