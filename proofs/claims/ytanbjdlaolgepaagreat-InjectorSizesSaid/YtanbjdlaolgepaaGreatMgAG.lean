/-
  A line that another function performs.
  Plain arithmetic on words, with no Go in sight: bits of a natural number below 2^64, their least, greatest, n-th and number; spans; the parallel count; packed keys.
  What an access changes of a memory's state. No function is named.
  Plain mathematics of a memory's states: words are not negative, accesses are counted. No function is named.
  The contracts of the reference's words (workstealref01): power and Mask.
  The contracts of the reference's words (workstealref01): Bit.
  Plain mathematics: every word of a memory and of a frame is one of 64 bits, and the lines of push, pop, steal, set and clear keep that. No function is named.
  Keys as plain numbers. No function is named.
-/
import Derived.Test.YtanbjdlaolgepaaGreatMgAF
import Derived.Laws.Bits64b
import Derived.Lib.TrailingZeros
import Derived.Lib.BitFns
import Derived.Test.YtanbjdlaolgepaaGreatMgAA
import Derived.Test.YtanbjdlaolgepaaGreatMgAC
import Derived.Laws.BitsAllLaws
import Derived.Test.YtanbjdlaolgepaaGreatMgAB
import Derived.WalkSpells
import Derived.Lib.Hide
import Derived.Deep.QuietTactic
import Derived.BigQuiet
import Derived.Outline
namespace Go.Proofs.YtanbjdlaolgepaaGreat
open Go Go.RowKit
set_option linter.unusedSimpArgs false

/-- A line that another function performs. -/
theorem LSt.call {B p g o : Nat} {pre post : List Value} {a : EnvA} {w W W' : World} {v : Value} {s s' : St} {es es' : List Ev} {rs rs' : List Rec} {f f' : Fra} {r : Res} {e : Ending} (h : LSt B p g o pre post a w v s es rs f W)
    (hl : Line B p g o pre post { a with ev := v } r s' es' rs' f' W e W') : ∃ v', e = .returned (.agg (rcells' r)) ∧ LSt B p g o pre post a w v' s' es' rs' f' W' := by
  obtain ⟨v', he, h1, h2, h3, h4⟩ := hl
  have h5 := h.lp
  have h6 := h.lg
  have h7 := h.lf
  have hsz := h.k.size
  obtain ⟨ks, _, hrow, _⟩ := h.e.rc
  have hv : ∀ k, v.ownBlock = some k → k ≠ w.heap.size := row_apart h.e.ev h.r (by decide)
  have hr : ∀ k, a.rv.ownBlock = some k → k ≠ w.heap.size := row_apart hrow h.r (by decide)
  refine ⟨v', he, h1, h2, h.r.of_same (h3.block _ h.r.lt (fun hm => ?_)), ?_, fun k hk => ?_, h.lp, h.lg, h.lf, h.bg, h.bw⟩
  · simp only [EnvA.S, List.mem_cons, List.mem_append, Option.mem_toList] at hm
    rcases hm with hm | hm | hm | hm | hm
    · omega
    · omega
    · omega
    · exact hv _ hm rfl
    · exact hr _ hm rfl
  · refine Fr.drop (T := g :: ({ a with ev := v } : EnvA).S p) h.k h3 (fun x hx => ?_)
    simp only [EnvA.S, List.mem_cons, List.mem_append, Option.mem_toList] at hx ⊢
    rcases hx with hx | hx | hx | hx | hx
    · exact .inl (.inl hx)
    · exact .inl (.inr (.inl hx))
    · exact .inl (.inr (.inr (.inl hx)))
    · rcases h.v x hx with e | e
      · exact .inl (.inr (.inr (.inr (.inl e))))
      · exact .inr e
    · exact .inl (.inr (.inr (.inr (.inr hx))))
  · rcases h4 k hk with e | e
    · exact h.v k e
    · exact .inr (by omega)
end Go.Proofs.YtanbjdlaolgepaaGreat

namespace Go.Proofs.YtanbjdlaolgepaaGreat
open Go

/-- Whether bit i is 1, behind a name that no tactic opens. -/
def bitB (x i : Nat) : Bool := x.testBit i

theorem bitB_quo (x i : Nat) : (x / 2 ^ i % 2 == 1) = bitB x i := by
  unfold bitB
  rw [Nat.testBit_eq_decide_div_mod_eq]
  by_cases h : x / 2 ^ i % 2 = 1 <;> simp [h]

/-- The n-th bit that is 1 among the last f ones (bits 64 - f to 63). -/
def nthF (x : Nat) : Nat → Int → Int
  | 0, _ => -1
  | f + 1, n => if bitB x (63 - f) = true then (if n = 0 then ((63 - f : Nat) : Int) else nthF x f (n - 1)) else nthF x f n

/-! ### The greatest bit -/
/-! ### The least bit -/
/-! ### Spans -/
end Go.Proofs.YtanbjdlaolgepaaGreat

namespace Go.Proofs.YtanbjdlaolgepaaGreat
open Go Go.RowKit

theorem go_len (s : St) (k i : Int) (F : Int → Int) : (s.go k i F).X.length = s.X.length := by
  unfold St.go
  split
  · simp [St.acc]
  · rfl
theorem go_has (s : St) (k i j : Int) (F : Int → Int) : (s.go k i F).has j ↔ s.has j := by
  unfold St.has
  rw [go_len]
theorem go_old (s : St) (k i : Int) (F : Int → Int) (h : s.has i) : (s.go k i F).old i = F (s.old i) := by
  have h' := (go_has s k i i F).2 h
  unfold St.old
  rw [if_pos h', if_pos h]
  unfold St.go
  rw [if_pos h]
  have h2 : i.toNat < s.X.length := by have := h.1; have := h.2; omega
  simp [St.acc, List.getD_eq_getElem?_getD, h2]
theorem go_other (s : St) (k i j : Int) (F : Int → Int) (h : i ≠ j) : (s.go k i F).old j = s.old j := by
  unfold St.old
  by_cases hj : s.has j
  · rw [if_pos hj, if_pos ((go_has s k i j F).2 hj)]
    unfold St.go
    split
    · rename_i hi
      have : i.toNat ≠ j.toNat := by have := hi.1; have := hj.1; omega
      simp [St.acc, List.getD_eq_getElem?_getD, this]
    · rfl
  · rw [if_neg hj, if_neg (fun h => hj ((go_has s k i j F).1 h))]
end Go.Proofs.YtanbjdlaolgepaaGreat

namespace Go.Proofs.YtanbjdlaolgepaaGreat
open Go Go.RowKit
set_option linter.unusedSimpArgs false

/-- No word is negative. -/
def St.N (s : St) : Prop := ∀ i, 0 ≤ s.old i
theorem go_N {s : St} (h : s.N) (k i : Int) (F : Int → Int) (hF : ∀ x, 0 ≤ x → 0 ≤ F x) : (s.go k i F).N := by
  intro j
  by_cases hj : i = j
  · subst hj
    by_cases hi : s.has i
    · rw [go_old s k i F hi]
      exact hF _ (h i)
    · unfold St.go
      rw [if_neg hi]
      exact h i
  · rw [go_other s k i j F hj]
    exact h j
/-- An access counts as one at most. -/
theorem go_c {s : St} (k i : Int) (F : Int → Int) (h : 0 ≤ s.c ∧ s.c < 1000000) : s.c ≤ (s.go k i F).c ∧ (s.go k i F).c ≤ s.c + 1 := by
  unfold St.go
  split
  · simp only [St.acc]
    unfold wrap64
    omega
  · omega

end Go.Proofs.YtanbjdlaolgepaaGreat

namespace Go.Proofs.YtanbjdlaolgepaaGreat
open Go Go.RowKit

theorem reti {k : IntKind} {a b : Int} (h : a = b) : Ending.returned (.int k a) = .returned (.int k b) := by rw [h]

theorem power_next (k j q : Nat) (hk : k < 64) (h0 : 0 < j) (hq : q * 2 ^ j = 2 ^ k) : q * 2 * 2 ^ (j - 1) = 2 ^ k ∧ q * 2 < 18446744073709551616 := by
  obtain ⟨i, rfl⟩ : ∃ i, j = i + 1 := ⟨j - 1, by omega⟩
  rw [Nat.pow_succ] at hq
  have e : q * 2 * 2 ^ (i + 1 - 1) = 2 ^ k := by
    rw [show i + 1 - 1 = i by omega, Nat.mul_assoc, Nat.mul_comm 2]
    exact hq
  refine ⟨e, ?_⟩
  have h1 : q * 2 ≤ q * 2 * 2 ^ (i + 1 - 1) := Nat.le_mul_of_pos_right _ (Nat.two_pow_pos _)
  have h2 : (2 : Nat) ^ k ≤ 2 ^ 63 := Nat.pow_le_pow_right (by decide) (by omega)
  omega

set_option maxHeartbeats 400000 in
theorem power_any (k : Nat) (hk : k < 64) (w : World) :
    Calls Tryz.prog 116 #[.int .i64 (k : Int)] w fun e w' => e = .returned (.int .u64 ((2 ^ k : Nat) : Int)) ∧ w = w' := by
  obtain ⟨P, hP⟩ : ∃ P : Nat, P = 2 ^ k := ⟨_, rfl⟩
  rw [← hP]
  have HP := Lib.hid hP
  clear hP
  go_enter Tryz.func116, Tryz.ntmps116
  go_wp2
  go_loop [0, 3] (fun i p => ∃ j q : Nat, j ≤ k ∧ i = .int .i64 (j : Int) ∧ p = .int .u64 (q : Int) ∧ Hid (q * 2 ^ j = 2 ^ k)) (fun i _ => (intOf i).toNat)
  case atStart => exact ⟨k, 1, Nat.le_refl _, rfl, rfl, Lib.hid (by simp)⟩
  case round =>
    obtain ⟨j, q, hj, rfl, rfl, HQ⟩ := hrel
    by_cases h0 : 0 < j
    · obtain ⟨hn, hb⟩ := power_next k j q hk h0 HQ.out
      have HN := Lib.hid hn
      clear hn
      go_wp2
      go_round
      case rel => exact ⟨j - 1, q * 2, by omega, by go_num, by go_num, HN⟩
      case measure => simp [intOf]; omega
    · go_wp2
      go_ret
      obtain rfl : j = 0 := by omega
      have := HQ.out
      rw [HP.out]
      rw [Nat.pow_zero, Nat.mul_one] at this
      rw [← this]
      exact ⟨rfl, rfl⟩

end Go.Proofs.YtanbjdlaolgepaaGreat

namespace Go.Proofs.YtanbjdlaolgepaaGreat
open Go Go.RowKit

theorem bit_walk (x i p : Nat) (hx : x < 18446744073709551616) (hp : p = 2 ^ i) : ((IntKind.u64.wrap ((x : Int) / (p : Int))).tmod 2 == 1) = bitB x i := by
  have h0 : x / p ≤ x := Nat.div_le_self _ _
  have e : IntKind.u64.wrap ((x : Int) / (p : Int)) = ((x / p : Nat) : Int) := by
    rw [IntKind.wrap_u64, ← Int.natCast_ediv]
    generalize x / p = q at h0 ⊢
    omega
  rw [e, ← bitB_quo, hp]
  generalize x / 2 ^ i = q
  have e2 : ((q : Int)).tmod 2 = ((q % 2 : Nat) : Int) := by
    rw [Int.tmod_eq_emod_of_nonneg (by omega)]
    omega
  rw [e2, Bool.eq_iff_iff]
  simp
  omega

set_option maxHeartbeats 400000 in
theorem bit_any (x i : Nat) (hx : x < 18446744073709551616) (hi : i < 64) (w : World) :
    Calls Tryz.prog 118 #[.int .u64 (x : Int), .int .i64 (i : Int)] w fun e w' => e = .returned (.bool (bitB x i)) ∧ w = w' := by
  have hp := power_any i hi w
  have h0 : 0 < 2 ^ i := Nat.two_pow_pos _
  have key := bit_walk x i _ hx rfl
  generalize 2 ^ i = p at hp h0 key
  have HP := Lib.hid hp
  clear hp
  have hz : ((p : Int) == 0) = false := by simp; omega
  generalize bitB x i = b at key ⊢
  go_enter Tryz.func118, Tryz.ntmps118
  go_wp2_with (go_at_call 116; refine HP.out.mono ?_; rintro e w' ⟨rfl, rfl⟩)
  go_ret
  exact ⟨rfl, rfl⟩

end Go.Proofs.YtanbjdlaolgepaaGreat

namespace Go.Proofs.YtanbjdlaolgepaaGreat
open Go Go.RowKit
set_option linter.unusedSimpArgs false

/-- A word. -/
def uw (x : Int) : Prop := 0 ≤ x ∧ x < 18446744073709551616
theorem uw_wrap (x : Int) : uw (IntKind.u64.wrap x) := by
  rw [IntKind.wrap_u64]
  exact ⟨Int.emod_nonneg _ (by decide), Int.emod_lt_of_pos _ (by decide)⟩
theorem uw_zero : uw 0 := ⟨by decide, by decide⟩
/-- Every word of the memory is one. -/
def St.U (s : St) : Prop := ∀ i, uw (s.old i)
theorem St.U.n {s : St} (h : s.U) : s.N := fun i => (h i).1
theorem go_U {s : St} (h : s.U) (k i : Int) (F : Int → Int) (hF : ∀ x, uw x → uw (F x)) : (s.go k i F).U := by
  intro j
  by_cases hj : i = j
  · subst hj
    by_cases hi : s.has i
    · rw [go_old s k i F hi]
      exact hF _ (h i)
    · unfold St.go
      rw [if_neg hi]
      exact h i
  · rw [go_other s k i j F hj]
    exact h j
/-- Every word of a frame is one. -/
def Fra.U (f : Fra) : Prop := uw f.fu ∧ uw f.fv ∧ uw f.fw ∧ uw f.fx
end Go.Proofs.YtanbjdlaolgepaaGreat

namespace Go.Proofs.YtanbjdlaolgepaaGreat
open Go Go.RowKit

/-- Whether three numbers have a key. -/
def Keyed (d a t : Int) : Prop := (0 ≤ d ∧ d ≤ 16777215) ∧ (0 ≤ a ∧ a ≤ 16777215) ∧ (0 ≤ t ∧ t ≤ 65535)
instance (d a t : Int) : Decidable (Keyed d a t) := inferInstanceAs (Decidable ((0 ≤ d ∧ d ≤ 16777215) ∧ (0 ≤ a ∧ a ≤ 16777215) ∧ (0 ≤ t ∧ t ≤ 65535)))

/-- The key of three numbers. -/
def keyS (d a t : Int) : Int := d * 1099511627776 + a * 65536 + t
theorem keyS_uw {d a t : Int} (h : Keyed d a t) : uw (keyS d a t) := by
  obtain ⟨h1, h2, h3⟩ := h
  unfold keyS uw
  omega
end Go.Proofs.YtanbjdlaolgepaaGreat
