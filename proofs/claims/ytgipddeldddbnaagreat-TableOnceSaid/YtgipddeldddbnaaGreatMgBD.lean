/-
  Plain mathematics of one bit of a word. No function is named.
  Package levels: a step of its machines. (Written by wip/gen_lvu.py, edited by hand since.)
-/
import Derived.Test.YtgipddeldddbnaaGreatMgAB
import Derived.Test.YtgipddeldddbnaaGreatMgBA
import Derived.Test.YtgipddeldddbnaaGreatMgBB
import Derived.Test.YtgipddeldddbnaaGreatOwM
namespace Go.Proofs.YtgipddeldddbnaaGreat
open Go Go.RowKit
set_option linter.unusedSimpArgs false

theorem maskS_nat (b : Nat) (hb : b < 64) : maskS (b : Int) = ((2 ^ b : Nat) : Int) := by
  unfold maskS
  rw [if_neg (by omega), Int.toNat_natCast]
theorem pow_lt64 (b : Nat) (hb : b < 64) : 2 ^ b < 18446744073709551616 := by
  have : (2 : Nat) ^ b ≤ 2 ^ 63 := Nat.pow_le_pow_right (by decide) (by omega)
  omega
theorem or_zero_mask (b : Nat) (hb : b < 64) : bits .or .u64 0 (maskS b) = maskS b := by
  rw [maskS_nat b hb]
  have := u64_or_nat 0 (2 ^ b) (by decide) (pow_lt64 b hb)
  rw [Nat.zero_or] at this
  exact this
theorem or_mask_mask (b : Nat) (hb : b < 64) : bits .or .u64 (maskS b) (maskS b) = maskS b := by
  rw [maskS_nat b hb]
  have := u64_or_nat (2 ^ b) (2 ^ b) (pow_lt64 b hb) (pow_lt64 b hb)
  rw [Nat.or_self] at this
  exact this
theorem and_not_self (y : Nat) (hy : y < 18446744073709551616) : y &&& (18446744073709551615 ^^^ y) = 0 := by
  apply Nat.eq_of_testBit_eq
  intro i
  have e1 : (18446744073709551615 : Nat) = 2 ^ 64 - 1 := by decide
  rw [Nat.testBit_and, Nat.testBit_xor, e1, Nat.testBit_two_pow_sub_one, Nat.zero_testBit]
  by_cases hi : i < 64
  · cases y.testBit i <;> simp [hi]
  · have hp : 18446744073709551616 ≤ 2 ^ i := Nat.pow_le_pow_right (n := 2) (by decide) (show 64 ≤ i by omega)
    have a := Nat.testBit_lt_two_pow (Nat.lt_of_lt_of_le hy hp)
    simp [a]
theorem notU_nat (y : Nat) (hy : y < 18446744073709551616) : notU (y : Int) = ((18446744073709551615 ^^^ y : Nat) : Int) := u64_xor_nat 18446744073709551615 y (by decide) hy
theorem not_lt64 (y : Nat) (hy : y < 18446744073709551616) : 18446744073709551615 ^^^ y < 18446744073709551616 := Nat.xor_lt_two_pow (n := 64) (by decide) hy
theorem and_zero_mask (b : Nat) (hb : b < 64) : bits .and .u64 0 (notU (maskS b)) = 0 := by
  rw [maskS_nat b hb, notU_nat _ (pow_lt64 b hb)]
  have := u64_and_nat 0 (18446744073709551615 ^^^ 2 ^ b) (by decide) (not_lt64 _ (pow_lt64 b hb))
  rw [Nat.zero_and] at this
  exact this
theorem and_mask_mask (b : Nat) (hb : b < 64) : bits .and .u64 (maskS b) (notU (maskS b)) = 0 := by
  rw [maskS_nat b hb, notU_nat _ (pow_lt64 b hb)]
  have := u64_and_nat (2 ^ b) (18446744073709551615 ^^^ 2 ^ b) (pow_lt64 b hb) (not_lt64 _ (pow_lt64 b hb))
  rw [and_not_self _ (pow_lt64 b hb)] at this
  exact this
theorem old_load (s : St) (i j : Int) : (s.go 1 i id).old j = s.old j := by
  by_cases e : i = j
  · subst e
    by_cases hi : s.has i
    · rw [go_old s 1 i id hi]; rfl
    · unfold St.go
      rw [if_neg hi]
  · exact go_other s 1 i j id e
section
variable {s : St}
theorem clearS_1 {f : Fra} (h : f.ln = 1) : clearS s f = (s.go 5 f.fa (fun x => bits .and .u64 x (notU (maskS f.fb))), { f with ln := 2 }, .none) := by
  rw [clearS, if_pos h]
theorem clearS_2 {f : Fra} (h : f.ln = 2) : clearS s f = (s.go 1 f.qb id, { f with fu := s.old f.qb, ln := 3 }, .none) := by
  rw [clearS, if_neg (by omega), if_pos h]
theorem clearS_3e {f : Fra} (h : f.ln = 3) (hc : sizeI f.fu (s.old f.qt) ≤ 0) : clearS s f = (s.go 1 f.qt id, { f with fv := s.old f.qt }, ⟨true, 2, 0⟩) := by
  rw [clearS, if_neg (by omega), if_neg (by omega), if_pos h, if_pos hc]
theorem clearS_3 {f : Fra} (h : f.ln = 3) (hc : ¬ sizeI f.fu (s.old f.qt) ≤ 0) : clearS s f = (s.go 1 f.qt id, { f with fv := s.old f.qt, ln := 4 }, .none) := by
  rw [clearS, if_neg (by omega), if_neg (by omega), if_pos h, if_neg hc]
theorem clearS_4 {f : Fra} (h : f.ln = 4) : clearS s f = (s.go 4 f.fa (fun x => bits .or .u64 x (maskS f.fb)), f, ⟨true, 1, 0⟩) := by
  rw [clearS, if_neg (by omega), if_neg (by omega), if_neg (by omega)]
end
end Go.Proofs.YtgipddeldddbnaaGreat

namespace Go.Proofs.YtgipddeldddbnaaGreat
open Go Go.RowKit Go.Shelf
set_option linter.unusedSimpArgs false
set_option linter.unusedVariables false

/-- .. of Push: its inner machine is the owner's push alone. -/
def InnP5 (w : World) (u : Value) (i : Option Nat) : Option Fra → Prop
  | none => u = .nilIface ∧ i = none
  | some x => ∃ q, i = some q ∧ x.kd = 0 ∧ u = .iface 163 (.pointer (some ⟨q, 0, none⟩)) ∧ OB w q 168 [.int .i64 x.fa] x 0 0 ∧ PushOk x
/-- Block b is a machine of Push, of Pop. -/
def V5 (w : World) (b : Nat) (x : Fra × Option Fra) (i : Option Nat) : Prop :=
  ∃ u, InnP5 w u i x.2 ∧ LB w b 151 (u :: [.int .i64 x.1.fa, .int .i64 x.1.fb, .int .i64 x.1.fd]) x.1 0 0 ∧ x.1.kd = 5 ∧ ((x.1.ln = 1 ∧ ∀ y, x.2 = some y → y.kd = 0) ∨ (x.1.ln = 2 ∧ x.2 = none))
/-- What a step gives. -/
def VStep (w : World) (p m k g cap : Nat) (s' : St) (t d : Int) (hd : List Value) (rv ev : Value) (b : Nat) (ty : TypeId) (V : World → Nat → Fra × Option Fra → Option Nat → Prop) (x' : Fra × Option Fra) (r : Res) (i : Option Nat) (e : Ending) (w' : World) : Prop :=
  e = .returned (.bool r.dn) ∧ PE w' p m k g cap s' t d hd rv ev ∧ (r.dn = true → ∃ post f', LB w' b ty post f' r.cd r.vl ∧ f'.ln = 0) ∧
    (r.dn = false → ∃ i', V w' b x' i' ∧ (i' = i ∨ ∀ q, i' = some q → w.heap.size ≤ q)) ∧ Fr (m :: g :: b :: i.toList) w w'

section
variable {w w' : World} {p m k g cap : Nat} {s : St} {t d : Int} {hd : List Value} {rv ev : Value} {c : Cfg} {b : Nat} {f : Fra} {o : Option Fra} {i : Option Nat}
theorem cap_small (hin : CfgIn c) (a l : Int) : (rQueue c a l).2.2.2 ≤ 9223372036854775807 := by
  unfold rQueue
  split
  · have := hin.de.2
    show c.de ≤ _
    omega
  · show (0 : Int) ≤ _
    omega
set_option maxHeartbeats 2000000 in
theorem lvpusher_any (hp : PE w p m k g cap s t d hd rv ev) (hl : LayHd hd c) (hin : CfgIn c) (hu : s.U) (hv : V5 w b (f, o) i) :
    Calls Tryz.prog 98 #[.pointer (some ⟨b, 0, none⟩), .pointer (some ⟨p, 0, none⟩)] w (VStep w p m k g cap (lvS c s (f, o)).1 t d hd rv ev b 151 V5 (lvS c s (f, o)).2.1 (lvS c s (f, o)).2.2 i) := by
  obtain ⟨u, hi, hb, hkd, hln⟩ := hv
  replace hkd : f.kd = 5 := hkd
  have hn : ¬ (f.kd = 6 ∧ f.ln = 1) := by omega
  rcases hln with ⟨hln, ho⟩ | ⟨hln, ho⟩
  · replace hln : f.ln = 1 := hln
    cases o with
    | none =>
    obtain ⟨rfl, rfl⟩ := hi
    have hch : lvChild c f = fra1 0 (rQueue c f.fa f.fb).1 (rQueue c f.fa f.fb).2.1 (rQueue c f.fa f.fb).2.2.1 (rQueue c f.fa f.fb).2.2.2 f.fd := by
      unfold lvChild
      rw [if_pos hkd, if_pos hln]
    have hok : PushOk (fra1 0 (rQueue c f.fa f.fb).1 (rQueue c f.fa f.fb).2.1 (rQueue c f.fa f.fb).2.2.1 (rQueue c f.fa f.fb).2.2.2 f.fd) := ⟨.inl rfl, Int.le_refl _, Int.le_refl _, cap_small hin _ _⟩
    have hd0 : (pushS s (fra1 0 (rQueue c f.fa f.fb).1 (rQueue c f.fa f.fb).2.1 (rQueue c f.fa f.fb).2.2.1 (rQueue c f.fa f.fb).2.2.2 f.fd)).2.2.dn = false := by rw [pushS_1 rfl]
    have hkk : lvK s (Option.getD none (lvChild c f)) = pushS s (fra1 0 (rQueue c f.fa f.fb).1 (rQueue c f.fa f.fb).2.1 (rQueue c f.fa f.fb).2.2.1 (rQueue c f.fa f.fb).2.2.2 f.fd) := by
      show lvK s (lvChild c f) = _
      rw [hch]
      exact lvK_push _ _ rfl
    have e := lvS_in (c := c) (s := s) (f := f) (g := none) hn (by rw [hkk]; exact hd0)
    rw [hkk] at e
    rw [e]
    refine (lvpusher_1f hp hl hin hb hln hok hd0).mono ?_
    rintro e w' ⟨q, rfl, hp', hb', ho', hf', hq'⟩
    refine ⟨rfl, hp', fun h => absurd (show false = true from h) (by decide), fun _ => ⟨some q, ⟨_, ⟨q, rfl, (push_keeps.q s _).2.2, rfl, ho', push_keeps.o s _ hu.n hok hd0⟩, hb', hkd, .inl ⟨hln, fun y hy => by cases hy; exact (push_keeps.q s _).2.2⟩⟩, .inr (fun z hz => ?_)⟩, by simpa using hf'⟩
    rcases hq' with hq | ⟨_, hq⟩
    · cases hq
    · cases hz
      exact hq
    | some x =>
    have hkx := ho x rfl
    obtain ⟨q, rfl, _, hq'⟩ := hi
    obtain ⟨rfl, hob, hok⟩ := hq'
    have hkk : lvK s (Option.getD (some x) (lvChild c f)) = pushS s x := lvK_push s x hkx
    have hsx : (pushS s x).2.1.kd = x.kd := (push_keeps.q s x).2.2
    cases hdn : (pushS s x).2.2.dn with
    | false =>
      have e := lvS_in (c := c) (s := s) (f := f) (g := some x) hn (by rw [hkk]; exact hdn)
      rw [hkk] at e
      rw [e]
      refine (lvpusher_1n hp hl hin hb hln hob hok hdn).mono ?_
      rintro e w' ⟨q2, rfl, hp', hb', ho', hf', hq'⟩
      rcases hq' with hq2 | ⟨hq2, _⟩
      · cases hq2
        refine ⟨rfl, hp', fun h => absurd (show false = true from h) (by decide), fun _ => ⟨some q, ⟨_, ⟨q, rfl, hsx.trans hkx, rfl, ho', push_keeps.o s x hu.n hok hdn⟩, hb', hkd, .inl ⟨hln, fun y hy => by cases hy; exact hsx.trans hkx⟩⟩, .inl rfl⟩, by simpa using hf'⟩
      · cases hq2
    | true =>
      have e := lvS_out (c := c) (s := s) (f := f) (g := some x) hn (by rw [hkk]; exact hdn)
      rw [hkk] at e
      by_cases hc : (pushS s x).2.2.cd = 3
      · have eb : lvBack f (pushS s x).2.2.cd (pushS s x).2.2.vl = (f, ⟨true, 3, 0⟩) := by
          unfold lvBack
          rw [if_pos hkd, if_pos (.inr hc), hc]
        rw [eb] at e
        rw [e]
        refine (lvpusher_1e hp hl hin hb hln hob hok hdn hc).mono ?_
        rintro e w' ⟨rfl, hp', hb', hf'⟩
        exact ⟨rfl, hp', fun _ => ⟨_, _, hb', rfl⟩, fun h => absurd (show true = false from h) (by decide), by simpa using hf'⟩
      · have eb : lvBack f (pushS s x).2.2.cd (pushS s x).2.2.vl = ({ f with ln := 2 }, .none) := by
          unfold lvBack
          rw [if_pos hkd, if_neg (by omega)]
        rw [eb] at e
        rw [e]
        refine (lvpusher_1d hp hl hin hb hln hob hok hdn hc).mono ?_
        rintro e w' ⟨rfl, hp', hb', hf'⟩
        exact ⟨rfl, hp', fun h => absurd (show false = true from h) (by decide), fun _ => ⟨none, ⟨_, ⟨rfl, rfl⟩, hb', hkd, .inr ⟨rfl, rfl⟩⟩, .inr (fun z hz => by cases hz)⟩, by simpa using hf'⟩
  · replace hln : f.ln = 2 := hln
    replace ho : o = none := ho
    subst ho
    obtain ⟨rfl, rfl⟩ := hi
    have hch : lvChild c f = fraS (rBitmap c f.fa) f.fb := by
      unfold lvChild
      rw [if_pos hkd, if_neg (by omega)]
    have hok : SetOk (fraS (rBitmap c f.fa) f.fb) := ⟨rfl, Int.le_refl _, Int.le_refl _, by show (0 : Int) ≤ _; omega⟩
    have hkk : lvK s (Option.getD none (lvChild c f)) = setS s (fraS (rBitmap c f.fa) f.fb) := by
      show lvK s (lvChild c f) = _
      rw [hch]
      exact lvK_set _ _ rfl
    have e := lvS_out (c := c) (s := s) (f := f) (g := none) hn (by rw [hkk]; rfl)
    rw [hkk] at e
    have eb : lvBack f (setS s (fraS (rBitmap c f.fa) f.fb)).2.2.cd (setS s (fraS (rBitmap c f.fa) f.fb)).2.2.vl = (f, ⟨true, 0, 0⟩) := by
      unfold lvBack
      rw [if_pos hkd, if_pos (.inl hln)]
      rfl
    rw [eb] at e
    rw [e]
    refine (lvpusher_2 hp hl hin hb hln hok rfl).mono ?_
    rintro e w' ⟨rfl, hp', hb', hf'⟩
    exact ⟨rfl, hp', fun _ => ⟨_, _, hb', rfl⟩, fun h => absurd (show true = false from h) (by decide), by simpa using hf'⟩
end
end Go.Proofs.YtgipddeldddbnaaGreat
