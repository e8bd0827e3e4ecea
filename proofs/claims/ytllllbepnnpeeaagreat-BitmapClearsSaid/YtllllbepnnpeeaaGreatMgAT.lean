/-
  Plain mathematics of a memory's states: words are not negative, accesses are counted. No function is named.
  Pure: the word of one bit; the lines of a set and of a clear; what they keep. No function and no type is named.
  The contracts of the reference's words (workstealref01): power and Mask.
  The contracts of the reference's words (workstealref01): Bit.
-/
import Derived.Test.YtllllbepnnpeeaaGreatMgAS
import Derived.Test.YtllllbepnnpeeaaGreatMgAO
import Derived.Laws.BitsAllLaws
import Derived.Test.YtllllbepnnpeeaaGreatMgAE
import Derived.WalkSpells
import Derived.Lib.Hide
import Derived.Deep.QuietTactic
import Derived.BigQuiet
import Derived.Outline
namespace Go.Proofs.YtllllbepnnpeeaaGreat
open Go Go.RowKit
set_option linter.unusedSimpArgs false

/-- No word is negative. -/
def St.N (s : St) : Prop := ∀ i, 0 ≤ s.old i
theorem go_N {s : St} (h : s.N) (k i : Int) (F : Int → Int) (hF : ∀ x, 0 ≤ x → 0 ≤ F x) : (s.go k i F).N := by
  intro j
  by_cases hj : i = j
  · subst hj
    by_cases hi : s.has i
    · rw [go_old s k i F hi]
      exact hF _ (h i)
    · unfold St.go
      rw [if_neg hi]
      exact h i
  · rw [go_other s k i j F hj]
    exact h j
theorem old_len {s : St} (j : Nat) (hj : j < s.X.length) : s.old j = s.X.getD j 0 := by
  have h : s.has j := ⟨by omega, by omega⟩
  unfold St.old
  rw [if_pos h, Int.toNat_natCast]
theorem N_of {s : St} (h : ∀ j, j < s.X.length → 0 ≤ s.X.getD j 0) : s.N := by
  intro i
  unfold St.old
  split
  · rename_i hi
    have := hi.1
    have := hi.2
    exact h i.toNat (by omega)
  · omega
/-- An access counts as one at most. -/
theorem go_c {s : St} (k i : Int) (F : Int → Int) (h : 0 ≤ s.c ∧ s.c < 1000000) : s.c ≤ (s.go k i F).c ∧ (s.go k i F).c ≤ s.c + 1 := by
  unfold St.go
  split
  · simp only [St.acc]
    unfold wrap64
    omega
  · omega

/-- What keeps the owner's push going. -/
def PushOk (f : Fra) : Prop := (f.ln = 1 ∨ f.ln = 2 ∨ f.ln = 3 ∨ f.ln = 4) ∧ 0 ≤ f.fu ∧ 0 ≤ f.fv ∧ f.qc ≤ 9223372036854775807
def PopOk (f : Fra) : Prop := (f.ln = 1 ∨ f.ln = 2 ∨ f.ln = 3 ∨ f.ln = 4 ∨ f.ln = 5 ∨ f.ln = 6 ∨ f.ln = 7 ∨ f.ln = 8 ∨ f.ln = 9) ∧ 0 ≤ f.fu ∧ 0 ≤ f.fv ∧ f.qc ≤ 9223372036854775807
def StealOk (f : Fra) : Prop := (f.ln = 1 ∨ f.ln = 2 ∨ f.ln = 3 ∨ f.ln = 4) ∧ 0 ≤ f.fu ∧ 0 ≤ f.fv ∧ f.qc ≤ 9223372036854775807

/-- What a step keeps: the words, the count, what the line says; the result is 0 and 0 as long as it isn't done. -/
structure Keeps (stp : St → Fra → St × Fra × Res) (ok : Fra → Prop) : Prop where
  n : ∀ (s : St) (f : Fra), s.N → ok f → (stp s f).1.N
  o : ∀ (s : St) (f : Fra), s.N → ok f → (stp s f).2.2.dn = false → ok (stp s f).2.1
  uv : ∀ (s : St) (f : Fra), s.N → ok f → 0 ≤ (stp s f).2.1.fu ∧ 0 ≤ (stp s f).2.1.fv
  c : ∀ (s : St) (f : Fra), 0 ≤ s.c ∧ s.c < 1000000 → s.c ≤ (stp s f).1.c ∧ (stp s f).1.c ≤ s.c + 1
  z : ∀ (s : St) (f : Fra), (stp s f).2.2.dn = false → (stp s f).2.2.cd = 0 ∧ (stp s f).2.2.vl = 0
  q : ∀ (s : St) (f : Fra), (stp s f).2.1.fa = f.fa ∧ (stp s f).2.1.qc = f.qc ∧ (stp s f).2.1.kd = f.kd
  l : ∀ (s : St) (f : Fra), (stp s f).1.X.length = s.X.length

theorem push_keeps : Keeps pushS PushOk := by
  refine ⟨fun s f hs h => ?_, fun s f hs h hd => ?_, fun s f hs h => ?_, fun s f h => ?_, fun s f hd => ?_, fun s f => ?_, fun s f => ?_⟩
  · unfold pushS
    split
    · exact go_N hs _ _ _ (fun x hx => hx)
    split
    · split <;> exact go_N hs _ _ _ (fun x hx => hx)
    split
    · exact go_N hs _ _ _ (fun x hx => u64_nn _)
    · exact go_N hs _ _ _ (fun x hx => u64_nn _)
  · obtain ⟨hl, hu, hv, hq⟩ := h
    revert hd
    unfold pushS
    split
    · intro _
      exact ⟨.inr (.inl rfl), hs _, hv, hq⟩
    split
    · split
      · intro hd
        exact absurd hd (by simp)
      · intro _
        exact ⟨.inr (.inr (.inl rfl)), hu, hs _, hq⟩
    split
    · intro _
      exact ⟨.inr (.inr (.inr rfl)), hu, hv, hq⟩
    · intro hd
      exact absurd hd (by simp)
  · obtain ⟨hl, hu, hv, hq⟩ := h
    unfold pushS
    split
    · exact ⟨hs _, hv⟩
    split
    · split <;> exact ⟨hu, hs _⟩
    split <;> exact ⟨hu, hv⟩
  · unfold pushS
    split
    · exact go_c _ _ _ h
    split
    · split <;> exact go_c _ _ _ h
    split <;> exact go_c _ _ _ h
  · revert hd
    unfold pushS
    split
    · intro _; exact ⟨rfl, rfl⟩
    split
    · split
      · intro hd; exact absurd hd (by simp)
      · intro _; exact ⟨rfl, rfl⟩
    split
    · intro _; exact ⟨rfl, rfl⟩
    · intro hd; exact absurd hd (by simp)
  · unfold pushS
    split
    · exact ⟨rfl, rfl, rfl⟩
    split
    · split <;> exact ⟨rfl, rfl, rfl⟩
    split <;> exact ⟨rfl, rfl, rfl⟩
  · unfold pushS
    split
    · exact go_len _ _ _ _
    split
    · split <;> exact go_len _ _ _ _
    split <;> exact go_len _ _ _ _

theorem pop4_in (z : Int) : pop4 z = 5 ∨ pop4 z = 6 ∨ pop4 z = 9 := by
  unfold pop4
  split
  · exact .inr (.inl rfl)
  split
  · exact .inr (.inr rfl)
  · exact .inl rfl
theorem pop_keeps : Keeps popS PopOk := by
  refine ⟨fun s f hs h => ?_, fun s f hs h hd => ?_, fun s f hs h => ?_, fun s f h => ?_, fun s f hd => ?_, fun s f => ?_, fun s f => ?_⟩
  · obtain ⟨hl, hu, hv, hq⟩ := h
    unfold popS
    split
    · exact go_N hs _ _ _ (fun x hx => hx)
    split
    · split <;> exact go_N hs _ _ _ (fun x hx => hx)
    split
    · exact go_N hs _ _ _ (fun x hx => u64_nn _)
    split
    · exact go_N hs _ _ _ (fun x hx => hx)
    split
    · exact go_N hs _ _ _ (fun x hx => hx)
    split
    · show (s.go 3 f.qt (fun x => if x = f.fv then add1 f.fv else x)).N
      apply go_N hs
      intro x hx
      show 0 ≤ if x = f.fv then add1 f.fv else x
      split
      · exact u64_nn _
      · exact hx
    split
    · exact go_N hs _ _ _ (fun x hx => hu)
    · exact go_N hs _ _ _ (fun x hx => hu)
  · obtain ⟨hl, hu, hv, hq⟩ := h
    revert hd
    unfold popS
    split
    · intro _
      exact ⟨.inr (.inl rfl), hs _, hv, hq⟩
    split
    · split
      · intro hd
        exact absurd hd (by simp)
      · intro _
        exact ⟨.inr (.inr (.inl rfl)), hu, hs _, hq⟩
    split
    · intro _
      exact ⟨.inr (.inr (.inr (.inl rfl))), hu, hv, hq⟩
    split
    · intro _
      refine ⟨?_, hu, hs _, hq⟩
      show pop4 _ = 1 ∨ pop4 _ = 2 ∨ pop4 _ = 3 ∨ pop4 _ = 4 ∨ pop4 _ = 5 ∨ pop4 _ = 6 ∨ pop4 _ = 7 ∨ pop4 _ = 8 ∨ pop4 _ = 9
      have := pop4_in (sizeI (sub1 f.fu) (s.old f.qt))
      omega
    split
    · intro hd
      exact absurd hd (by simp)
    split
    · intro _
      refine ⟨?_, hu, hv, hq⟩
      show (if s.hit f.qt f.fv = true then (7 : Int) else 9) = 1 ∨ (if s.hit f.qt f.fv = true then (7 : Int) else 9) = 2 ∨ (if s.hit f.qt f.fv = true then (7 : Int) else 9) = 3 ∨ (if s.hit f.qt f.fv = true then (7 : Int) else 9) = 4 ∨ (if s.hit f.qt f.fv = true then (7 : Int) else 9) = 5 ∨ (if s.hit f.qt f.fv = true then (7 : Int) else 9) = 6 ∨ (if s.hit f.qt f.fv = true then (7 : Int) else 9) = 7 ∨ (if s.hit f.qt f.fv = true then (7 : Int) else 9) = 8 ∨ (if s.hit f.qt f.fv = true then (7 : Int) else 9) = 9
      split <;> omega
    split
    · intro _
      exact ⟨.inr (.inr (.inr (.inr (.inr (.inr (.inr (.inl rfl))))))), hu, hv, hq⟩
    · intro hd
      exact absurd hd (by simp)
  · obtain ⟨hl, hu, hv, hq⟩ := h
    unfold popS
    split
    · exact ⟨hs _, hv⟩
    split
    · split <;> exact ⟨hu, hs _⟩
    split
    · exact ⟨hu, hv⟩
    split
    · exact ⟨hu, hs _⟩
    split
    · exact ⟨hu, hv⟩
    split
    · exact ⟨hu, hv⟩
    split <;> exact ⟨hu, hv⟩
  · unfold popS
    split
    · exact go_c _ _ _ h
    split
    · split <;> exact go_c _ _ _ h
    split
    · exact go_c _ _ _ h
    split
    · exact go_c _ _ _ h
    split
    · exact go_c _ _ _ h
    split
    · exact go_c _ _ _ h
    split <;> exact go_c _ _ _ h
  · revert hd
    unfold popS
    split
    · intro _; exact ⟨rfl, rfl⟩
    split
    · split
      · intro hd; exact absurd hd (by simp)
      · intro _; exact ⟨rfl, rfl⟩
    split
    · intro _; exact ⟨rfl, rfl⟩
    split
    · intro _; exact ⟨rfl, rfl⟩
    split
    · intro hd; exact absurd hd (by simp)
    split
    · intro _; exact ⟨rfl, rfl⟩
    split
    · intro _; exact ⟨rfl, rfl⟩
    · intro hd; exact absurd hd (by simp)
  · unfold popS
    split
    · exact ⟨rfl, rfl, rfl⟩
    split
    · split <;> exact ⟨rfl, rfl, rfl⟩
    split
    · exact ⟨rfl, rfl, rfl⟩
    split
    · exact ⟨rfl, rfl, rfl⟩
    split
    · exact ⟨rfl, rfl, rfl⟩
    split
    · exact ⟨rfl, rfl, rfl⟩
    split <;> exact ⟨rfl, rfl, rfl⟩
  · unfold popS
    split
    · exact go_len _ _ _ _
    split
    · split <;> exact go_len _ _ _ _
    split
    · exact go_len _ _ _ _
    split
    · exact go_len _ _ _ _
    split
    · exact go_len _ _ _ _
    split
    · exact go_len _ _ _ _
    split <;> exact go_len _ _ _ _
end Go.Proofs.YtllllbepnnpeeaaGreat

namespace Go.Proofs.YtllllbepnnpeeaaGreat
open Go Go.RowKit
set_option linter.unusedSimpArgs false

/-- The word of one bit. -/
def maskS (i : Int) : Int := if i < 0 ∨ 63 < i then 0 else ((2 ^ i.toNat : Nat) : Int)
/-- The complement of a word, as the program's arithmetic has it. -/
abbrev notU (x : Int) : Int := bits .xor .u64 (if IntKind.u64.signed = true then -1 else IntKind.u64.max) x
/-- A line of clearBit. -/
def clearS (s : St) (f : Fra) : St × Fra × Res :=
  if f.ln = 1 then (s.go 5 f.fa (fun x => bits .and .u64 x (notU (maskS f.fb))), { f with ln := 2 }, .none)
  else if f.ln = 2 then (s.go 1 f.qb id, { f with fu := s.old f.qb, ln := 3 }, .none)
  else if f.ln = 3 then
    if sizeI f.fu (s.old f.qt) ≤ 0 then (s.go 1 f.qt id, { f with fv := s.old f.qt }, ⟨true, 2, 0⟩)
    else (s.go 1 f.qt id, { f with fv := s.old f.qt, ln := 4 }, .none)
  else (s.go 4 f.fa (fun x => bits .or .u64 x (maskS f.fb)), f, ⟨true, 1, 0⟩)
/-- The line of set. -/
def setS (s : St) (f : Fra) : St × Fra × Res := (s.go 4 f.fa (fun x => bits .or .u64 x (maskS f.fb)), f, ⟨true, 0, 0⟩)
def SetOk (f : Fra) : Prop := f.ln = 1 ∧ 0 ≤ f.fu ∧ 0 ≤ f.fv ∧ f.qc ≤ 9223372036854775807
theorem set_keeps : Keeps setS SetOk := by
  refine ⟨fun s f hs h => go_N hs _ _ _ (fun x hx => u64_nn _), fun s f hs h hd => absurd hd (by simp [setS]), fun s f hs h => ⟨h.2.1, h.2.2.1⟩, fun s f h => go_c _ _ _ h, fun s f hd => absurd hd (by simp [setS]), fun s f => ⟨rfl, rfl, rfl⟩, fun s f => go_len _ _ _ _⟩
theorem clear_keeps : Keeps clearS StealOk := by
  refine ⟨fun s f hs h => ?_, fun s f hs h hd => ?_, fun s f hs h => ?_, fun s f h => ?_, fun s f hd => ?_, fun s f => ?_, fun s f => ?_⟩
  · unfold clearS
    split
    · exact go_N hs _ _ _ (fun x hx => u64_nn _)
    split
    · exact go_N hs _ _ _ (fun x hx => hx)
    split
    · split <;> exact go_N hs _ _ _ (fun x hx => hx)
    · exact go_N hs _ _ _ (fun x hx => u64_nn _)
  · obtain ⟨hl, hu, hv, hq⟩ := h
    revert hd
    unfold clearS
    split
    · intro _
      exact ⟨.inr (.inl rfl), hu, hv, hq⟩
    split
    · intro _
      exact ⟨.inr (.inr (.inl rfl)), hs _, hv, hq⟩
    split
    · split
      · intro hd
        exact absurd hd (by simp)
      · intro _
        exact ⟨.inr (.inr (.inr rfl)), hu, hs _, hq⟩
    · intro hd
      exact absurd hd (by simp)
  · obtain ⟨hl, hu, hv, hq⟩ := h
    unfold clearS
    split
    · exact ⟨hu, hv⟩
    split
    · exact ⟨hs _, hv⟩
    split
    · split <;> exact ⟨hu, hs _⟩
    · exact ⟨hu, hv⟩
  · unfold clearS
    split
    · exact go_c _ _ _ h
    split
    · exact go_c _ _ _ h
    split
    · split <;> exact go_c _ _ _ h
    · exact go_c _ _ _ h
  · revert hd
    unfold clearS
    split
    · intro _; exact ⟨rfl, rfl⟩
    split
    · intro _; exact ⟨rfl, rfl⟩
    split
    · split
      · intro hd; exact absurd hd (by simp)
      · intro _; exact ⟨rfl, rfl⟩
    · intro hd; exact absurd hd (by simp)
  · unfold clearS
    split
    · exact ⟨rfl, rfl, rfl⟩
    split
    · exact ⟨rfl, rfl, rfl⟩
    split
    · split <;> exact ⟨rfl, rfl, rfl⟩
    · exact ⟨rfl, rfl, rfl⟩
  · unfold clearS
    split
    · exact go_len _ _ _ _
    split
    · exact go_len _ _ _ _
    split
    · split <;> exact go_len _ _ _ _
    · exact go_len _ _ _ _
end Go.Proofs.YtllllbepnnpeeaaGreat

namespace Go.Proofs.YtllllbepnnpeeaaGreat
open Go Go.RowKit

theorem reti {k : IntKind} {a b : Int} (h : a = b) : Ending.returned (.int k a) = .returned (.int k b) := by rw [h]

theorem power_next (k j q : Nat) (hk : k < 64) (h0 : 0 < j) (hq : q * 2 ^ j = 2 ^ k) : q * 2 * 2 ^ (j - 1) = 2 ^ k ∧ q * 2 < 18446744073709551616 := by
  obtain ⟨i, rfl⟩ : ∃ i, j = i + 1 := ⟨j - 1, by omega⟩
  rw [Nat.pow_succ] at hq
  have e : q * 2 * 2 ^ (i + 1 - 1) = 2 ^ k := by
    rw [show i + 1 - 1 = i by omega, Nat.mul_assoc, Nat.mul_comm 2]
    exact hq
  refine ⟨e, ?_⟩
  have h1 : q * 2 ≤ q * 2 * 2 ^ (i + 1 - 1) := Nat.le_mul_of_pos_right _ (Nat.two_pow_pos _)
  have h2 : (2 : Nat) ^ k ≤ 2 ^ 63 := Nat.pow_le_pow_right (by decide) (by omega)
  omega

set_option maxHeartbeats 400000 in
theorem power_any (k : Nat) (hk : k < 64) (w : World) :
    Calls Tryz.prog 127 #[.int .i64 (k : Int)] w fun e w' => e = .returned (.int .u64 ((2 ^ k : Nat) : Int)) ∧ w = w' := by
  obtain ⟨P, hP⟩ : ∃ P : Nat, P = 2 ^ k := ⟨_, rfl⟩
  rw [← hP]
  have HP := Lib.hid hP
  clear hP
  go_enter Tryz.func127, Tryz.ntmps127
  go_wp2
  go_loop [0, 3] (fun i p => ∃ j q : Nat, j ≤ k ∧ i = .int .i64 (j : Int) ∧ p = .int .u64 (q : Int) ∧ Hid (q * 2 ^ j = 2 ^ k)) (fun i _ => (intOf i).toNat)
  case atStart => exact ⟨k, 1, Nat.le_refl _, rfl, rfl, Lib.hid (by simp)⟩
  case round =>
    obtain ⟨j, q, hj, rfl, rfl, HQ⟩ := hrel
    by_cases h0 : 0 < j
    · obtain ⟨hn, hb⟩ := power_next k j q hk h0 HQ.out
      have HN := Lib.hid hn
      clear hn
      go_wp2
      go_round
      case rel => exact ⟨j - 1, q * 2, by omega, by go_num, by go_num, HN⟩
      case measure => simp [intOf]; omega
    · go_wp2
      go_ret
      obtain rfl : j = 0 := by omega
      have := HQ.out
      rw [HP.out]
      rw [Nat.pow_zero, Nat.mul_one] at this
      rw [← this]
      exact ⟨rfl, rfl⟩

theorem mask_any (i : Int) (w : World) : Calls Tryz.prog 95 #[.int .i64 i] w fun e w' => e = .returned (.int .u64 (maskS i)) ∧ w = w' := by
  unfold maskS
  by_cases h1 : i < 0
  · rw [if_pos (.inl h1)]
    go_enter Tryz.func95, Tryz.ntmps95
    go_wp2
    go_ret
    exact ⟨rfl, rfl⟩
  by_cases h2 : 63 < i
  · rw [if_pos (.inr h2)]
    go_enter Tryz.func95, Tryz.ntmps95
    go_wp2
    go_ret
    exact ⟨rfl, rfl⟩
  rw [if_neg (by omega)]
  obtain ⟨k, rfl⟩ : ∃ k : Nat, i = (k : Int) := ⟨i.toNat, by omega⟩
  have HP := Lib.hid (power_any k (by omega) w)
  simp only [Int.toNat_natCast]
  generalize 2 ^ k = P at HP ⊢
  go_enter Tryz.func95, Tryz.ntmps95
  go_wp2_with fail
  (with_reducible refine HP.out.mono ?_)
  rintro e w' ⟨rfl, rfl⟩
  go_wp2
  go_ret
  exact ⟨rfl, rfl⟩
end Go.Proofs.YtllllbepnnpeeaaGreat

namespace Go.Proofs.YtllllbepnnpeeaaGreat
open Go Go.RowKit

theorem bit_walk (x i p : Nat) (hx : x < 18446744073709551616) (hp : p = 2 ^ i) : ((IntKind.u64.wrap ((x : Int) / (p : Int))).tmod 2 == 1) = bitB x i := by
  have h0 : x / p ≤ x := Nat.div_le_self _ _
  have e : IntKind.u64.wrap ((x : Int) / (p : Int)) = ((x / p : Nat) : Int) := by
    rw [IntKind.wrap_u64, ← Int.natCast_ediv]
    generalize x / p = q at h0 ⊢
    omega
  rw [e, ← bitB_quo, hp]
  generalize x / 2 ^ i = q
  have e2 : ((q : Int)).tmod 2 = ((q % 2 : Nat) : Int) := by
    rw [Int.tmod_eq_emod_of_nonneg (by omega)]
    omega
  rw [e2, Bool.eq_iff_iff]
  simp
  omega

set_option maxHeartbeats 400000 in
theorem bit_any (x i : Nat) (hx : x < 18446744073709551616) (hi : i < 64) (w : World) :
    Calls Tryz.prog 129 #[.int .u64 (x : Int), .int .i64 (i : Int)] w fun e w' => e = .returned (.bool (bitB x i)) ∧ w = w' := by
  have hp := power_any i hi w
  have h0 : 0 < 2 ^ i := Nat.two_pow_pos _
  have key := bit_walk x i _ hx rfl
  generalize 2 ^ i = p at hp h0 key
  have HP := Lib.hid hp
  clear hp
  have hz : ((p : Int) == 0) = false := by simp; omega
  generalize bitB x i = b at key ⊢
  go_enter Tryz.func129, Tryz.ntmps129
  go_wp2_with (go_at_call 127; refine HP.out.mono ?_; rintro e w' ⟨rfl, rfl⟩)
  go_ret
  exact ⟨rfl, rfl⟩

end Go.Proofs.YtllllbepnnpeeaaGreat
