/-
  Stage 12: awake.
  The contracts of the reference's words (workstealref01): power and Mask.
  The walk of the statement BitmapOthers: it returns true. (Written by wip/gen_l12.py.)
-/
import Derived.Test.YtllllbepnnpeeaaMgAH
import Derived.Test.YtllllbepnnpeeaaMgAL
import Derived.Test.YtllllbepnnpeeaaMgAS
import Derived.Test.YtllllbepnnpeeaaMgAC
import Derived.Test.YtllllbepnnpeeaaMgAF
import Derived.Test.YtllllbepnnpeeaaMgAN
import Derived.WalkSpells
import Derived.Lib.Hide
import Derived.Deep.QuietTactic
import Derived.BigQuiet
import Derived.Outline
namespace Go.Proofs.Ytllllbepnnpeeaa
open Go Go.RowKit Go.Shelf
set_option linter.unusedSimpArgs false
set_option linter.unusedVariables false

theorem setOk1 (c b : Int) : SetOk (fraS c b) := ⟨rfl, Int.le_refl _, Int.le_refl _, by show (0 : Int) ≤ _; omega⟩
theorem clearOk1 (c b n : Int) (hn : n ≤ 100) : StealOk (fraC c b 0 1 2 n) := ⟨.inl rfl, Int.le_refl _, Int.le_refl _, by show n ≤ _; omega⟩
/-- What the laws about a bitmap alone carry along: the program's environment; all of it is newer than w0. -/
structure BW (w0 : World) (p m k g cap : Nat) (hd : List Value) (rv ev : Value) (t d : Int) (s : St) (w : World) : Prop where
  e : PE w p m k g cap s t d hd rv ev
  n : s.N
  b : Below w0.heap.size w0 w
  lo : w0.heap.size ≤ p ∧ w0.heap.size ≤ m ∧ w0.heap.size ≤ k ∧ w0.heap.size ≤ g
section
variable {w0 w w' : World} {p m k g cap : Nat} {hd : List Value} {rv ev : Value} {t d : Int} {s s' : St}
theorem BW.below (h : BW w0 p m k g cap hd rv ev t d s w) (hb : Below w.heap.size w w') : BW w0 p m k g cap hd rv ev t d s w' := ⟨h.e.below hb, h.n, h.b.trans (hb.mono h.b.size), h.lo⟩
theorem BW.done (h : BW w0 p m k g cap hd rv ev t d s w) {x : Nat} (hx : w0.heap.size ≤ x) (hp : PE w' p m k g cap s' t d hd rv ev) (hf : Fr [m, g, x] w w') (hn : s'.N) : BW w0 p m k g cap hd rv ev t d s' w' := by
  refine ⟨hp, hn, below_of_fr h.b hf (fun y hy => ?_), h.lo⟩
  simp only [List.mem_cons, List.not_mem_nil, or_false] at hy
  rcases hy with rfl | rfl | rfl
  · exact h.lo.2.1
  · exact h.lo.2.2.2
  · exact hx
theorem BW.acc (h : BW w0 p m k g cap hd rv ev t d s w) (hm : Mem w' m g cap s') (hf : Fr [m, g] w w') (hn : s'.N) : BW w0 p m k g cap hd rv ev t d s' w' := by
  refine ⟨h.e.acc hm hf, hn, below_of_fr h.b hf (fun y hy => ?_), h.lo⟩
  simp only [List.mem_cons, List.not_mem_nil, or_false] at hy
  rcases hy with rfl | rfl
  · exact h.lo.2.1
  · exact h.lo.2.2.2
end
theorem st_old {s : St} {X : List Int} (e : s.X = X) (j : Nat) (hj : j < X.length) : s.old j = X.getD j 0 := by
  rw [old_len j (by rw [e]; exact hj), e]
theorem sizeI_sub (a b : Int) (h0 : 0 ≤ a - b) (h1 : a - b < 9223372036854775807) : sizeI a b = a - b := by
  unfold sizeI
  rw [IntKind.wrap_u64]
  unfold wrap64
  omega
/-- The runs of awake. -/
theorem runs_aw {s0 : St} (h : s0.X = [0, 0, 0, 0]) : ∃ s1 s2 s4, runS setS 9 s0 (fraS 3 5) = some (s1, ⟨true, 0, 0⟩, 1) ∧ runS clearS 9 s1 (fraC 3 5 0 1 2 1) = some (s2, ⟨true, 2, 0⟩, 3) ∧ s2.old 3 = 0 ∧
    runS clearS 9 (s2.go 2 1 (fun _ => 1)) (fraC 3 5 0 1 2 1) = some (s4, ⟨true, 1, 0⟩, 4) ∧ s4.old 3 = 32 := by
  have h0 : ∀ j : Nat, j < 4 → s0.old j = 0 := fun j hj => by
    rw [st_old h j hj]
    match j, hj with
    | 0, _ => rfl
    | 1, _ => rfl
    | 2, _ => rfl
    | 3, _ => rfl
  have m5 : maskS 5 = 32 := by decide
  have hl : s0.X.length = 4 := by rw [h]; rfl
  have hs : ∀ s : St, s.X.length = 4 → s.has 3 := fun s e => ⟨by omega, by omega⟩
  have r1 := run_set s0 (fraS 3 5)
  obtain ⟨s1, e1⟩ : ∃ s1, s0.go 4 3 (fun x => bits .or .u64 x (maskS 5)) = s1 := ⟨_, rfl⟩
  have r1' : runS setS 9 s0 (fraS 3 5) = some (s1, ⟨true, 0, 0⟩, 1) := by rw [← e1]; exact r1
  have l1 : s1.X.length = 4 := by rw [← e1, go_len, hl]
  have o13 : s1.old 3 = maskS 5 := by
    rw [← e1, go_old _ _ _ _ (hs _ hl)]
    have := h0 3 (by omega)
    rw [show ((3 : Nat) : Int) = 3 from rfl] at this
    rw [this]
    exact or_zero_mask 5 (by omega)
  have o1 : ∀ j : Nat, j < 3 → s1.old j = 0 := fun j hj => by rw [← e1, go_other _ _ _ _ _ (by omega), h0 j (by omega)]
  have z1 : s1.old 0 = 0 := o1 0 (by omega)
  have z2 : s1.old 1 = 0 := o1 1 (by omega)
  obtain ⟨s2, r, N, r2, l2, oo, hc⟩ := run_clear s1 (fraC 3 5 0 1 2 1) rfl (by show (3 : Int) ≠ 1; omega) (by show (3 : Int) ≠ 0; omega)
  rw [l1] at l2
  have hsz : sizeI (s1.old (fraC 3 5 0 1 2 1).qb) (s1.old (fraC 3 5 0 1 2 1).qt) ≤ 0 := by
    show sizeI (s1.old 1) (s1.old 0) ≤ 0
    rw [z1, z2, sizeI_sub 0 0 (by omega) (by omega)]
    decide
  obtain ⟨_, rfl, rfl, ho⟩ := hc.resolve_right (fun h => h.1 hsz)
  have o23 : s2.old 3 = 0 := by
    have := ho (hs _ l1)
    rw [show (fraC 3 5 0 1 2 1).fa = 3 from rfl, show (fraC 3 5 0 1 2 1).fb = 5 from rfl, o13] at this
    rw [this]
    exact and_mask_mask 5 (by omega)
  have z3 : s2.old 0 = 0 := (oo 0 (by show (0 : Int) ≠ 3; omega)).trans z1
  have l3 : (s2.go 2 1 (fun _ => 1)).X.length = 4 := by rw [go_len, l2]
  have y1 : (s2.go 2 1 (fun _ => 1)).old 1 = 1 := go_old _ _ _ _ ⟨by omega, by omega⟩
  have y0 : (s2.go 2 1 (fun _ => 1)).old 0 = 0 := (go_other _ _ _ _ _ (by omega)).trans z3
  have y3 : (s2.go 2 1 (fun _ => 1)).old 3 = 0 := (go_other _ _ _ _ _ (by omega)).trans o23
  obtain ⟨s4, r, N, r4, l4, oo, hc⟩ := run_clear (s2.go 2 1 (fun _ => 1)) (fraC 3 5 0 1 2 1) rfl (by show (3 : Int) ≠ 1; omega) (by show (3 : Int) ≠ 0; omega)
  have hsz : ¬ sizeI ((s2.go 2 1 (fun _ => 1)).old (fraC 3 5 0 1 2 1).qb) ((s2.go 2 1 (fun _ => 1)).old (fraC 3 5 0 1 2 1).qt) ≤ 0 := by
    show ¬ sizeI ((s2.go 2 1 (fun _ => 1)).old 1) ((s2.go 2 1 (fun _ => 1)).old 0) ≤ 0
    rw [y0, y1, sizeI_sub 1 0 (by omega) (by omega)]
    decide
  obtain ⟨_, rfl, rfl, ho⟩ := hc.resolve_left (fun h => hsz h.1)
  have o43 : s4.old 3 = 32 := by
    have := ho (hs _ l3)
    rw [show (fraC 3 5 0 1 2 1).fa = 3 from rfl, show (fraC 3 5 0 1 2 1).fb = 5 from rfl, y3] at this
    have za : bits .and .u64 0 (notU (maskS 5)) = 0 := and_zero_mask 5 (by omega)
    have zo : bits .or .u64 0 (maskS 5) = maskS 5 := or_zero_mask 5 (by omega)
    rw [this, za, zo]
    exact m5
  exact ⟨s1, s2, s4, r1', r2, o23, r4, o43⟩

set_option maxRecDepth 100000 in
set_option maxHeartbeats 16000000 in
theorem awake12_any (w : World) :
    Calls Try.prog 17 #[] w fun e w' => e = .returned (.bool true) ∧ Below w.heap.size w w' := by
  go_enter Try.func17, Try.ntmps17
  go_wp2_with fail
  (with_reducible refine (queue_any 1 _).mono ?_)
  rintro e w2 ⟨rfl, hb2⟩
  have B2 := Lib.hid hb2
  clear hb2
  go_upto_region 2 with fail
  have Q3 := Lib.hid (Blk.made w2 52 (qcells 0 1 2 1))
  have B3 := Lib.hid (B2.out.alloc B2.out.size (.cells (qcells 0 1 2 1) 52))
  generalize w2.alloc (.cells (qcells 0 1 2 1) 52) = V at *
  generalize w2.heap.size = qb at *
  clear B2
  have hin : InW (V.alloc (.cells #[.int .u64 0, .int .u64 0, .int .u64 0, .int .u64 0] 39)) (some ⟨V.heap.size, 0, none⟩) 4 [0, 0, 0, 0] := inW_new V 39 [0, 0, 0, 0] (by decide)
  have HM := Lib.hid (mbare_any hin 4 (by omega))
  have B4 := Lib.hid (B3.out.alloc B3.out.size (.cells #[.int .u64 0, .int .u64 0, .int .u64 0, .int .u64 0] 39))
  have Q4 := Lib.hid (Q3.out.alloc (.cells #[.int .u64 0, .int .u64 0, .int .u64 0, .int .u64 0] 39))
  clear hin Q3 B3
  go_wp2_with fail
  (with_reducible refine HM.out.mono ?_)
  rintro e w5 ⟨p, m, k, g, q, ag, acap, s, rfl, hd, hsX, hsc, hb5⟩
  have hs4 := B4.out.size
  have n0 : s.N := Row.inNN (X := [0, 0, 0, 0]) (by decide) hsX
  have A5 := Lib.hid (show BW w p m k g 4 hd0 nilV nilV 0 0 s w5 from ⟨hd.e, n0, B4.out.trans (hb5.mono hs4), Nat.le_trans hs4 hd.bp, Nat.le_trans hs4 hd.bm, Nat.le_trans hs4 hd.bk, Nat.le_trans hs4 hd.bg⟩)
  have Q5 := Lib.hid (Q4.out.below hb5)
  obtain ⟨s1, s2, s4, r1, r2, o23, r4, o43⟩ := runs_aw hsX
  have z1 := runS_N set_keeps 9 n0 (setOk1 3 5) r1
  have z2 := runS_N clear_keeps 9 z1 (clearOk1 3 5 1 (by omega)) r2
  have z3 : (s2.go 2 1 (fun _ => 1)).N := go_N z2 _ _ _ (fun x hx => by decide)
  have z4 := runS_N clear_keeps 9 z3 (clearOk1 3 5 1 (by omega)) r4
  have HR := Lib.hid (And.intro r1 (And.intro r2 r4))
  have HO := Lib.hid (And.intro o23 o43)
  have HN := Lib.hid (And.intro z1 (And.intro z2 (And.intro z3 z4)))
  clear hd hsX hsc hb5 Q4 hs4 B4 HM r1 r2 r4 o23 o43 z1 z2 z3 z4 n0
  go_wp2_with fail
  (with_reducible refine (bSet_any 3 5 _).mono ?_)
  rintro e w6 ⟨x, rfl, ho, hx, hb⟩
  have C0 := Lib.hid (A5.out.below hb)
  have Q6 := Lib.hid (Q5.out.below hb)
  have O0 := Lib.hid ho
  have X0 := Lib.hid (show w.heap.size ≤ x by have := A5.out.b.size; omega)
  have N0 := Lib.hid (show x ≠ qb by have := Q5.out.lt; omega)
  clear ho hx hb A5 Q5
  go_wp2_with fail
  (with_reducible refine (alone_setter C0.out.e O0.out C0.out.n (setOk1 3 5) HR.out.1).mono ?_)
  rintro e v1 ⟨rfl, hp, hf⟩
  have C1 := Lib.hid (C0.out.done X0.out hp hf HN.out.1)
  have Q7 := Lib.hid (Q6.out.of_same (hf.block qb Q6.out.lt (by
    obtain ⟨cur, hg, _⟩ := C0.out.e.mem.row.blk
    simp only [List.mem_cons, List.not_mem_nil, or_false, not_or]
    exact ⟨Q6.out.apart C0.out.e.mem.blk (by decide), Q6.out.apart hg (by decide), fun e => N0.out e.symm⟩)))
  clear hp hf C0 O0 Q6 X0 N0
  have q0 : v1.cell? ⟨qb, 0, none⟩ = some (.int .i64 0) := Q7.out.at_ 0
  have q1 : v1.cell? ⟨qb, 1, none⟩ = some (.int .i64 1) := Q7.out.at_ 1
  have q2 : v1.cell? ⟨qb, 2, none⟩ = some (.int .i64 2) := Q7.out.at_ 2
  have q3 : v1.cell? ⟨qb, 3, none⟩ = some (.int .i64 1) := Q7.out.at_ 3
  go_wp2_with fail
  (with_reducible refine (bClear_any 3 5 0 1 2 1 _).mono ?_)
  rintro e w6 ⟨x, rfl, ho, hx, hb⟩
  have C0 := Lib.hid (C1.out.below hb)
  have Q6 := Lib.hid (Q7.out.below hb)
  have O0 := Lib.hid ho
  have X0 := Lib.hid (show w.heap.size ≤ x by have := C1.out.b.size; omega)
  have N0 := Lib.hid (show x ≠ qb by have := Q7.out.lt; omega)
  clear ho hx hb C1 Q7 q0 q1 q2 q3
  go_wp2_with fail
  (with_reducible refine (alone_clearer C0.out.e O0.out C0.out.n (clearOk1 3 5 1 (by omega)) HR.out.2.1).mono ?_)
  rintro e v2 ⟨rfl, hp, hf⟩
  have C2 := Lib.hid (C0.out.done X0.out hp hf HN.out.2.1)
  have Q7 := Lib.hid (Q6.out.of_same (hf.block qb Q6.out.lt (by
    obtain ⟨cur, hg, _⟩ := C0.out.e.mem.row.blk
    simp only [List.mem_cons, List.not_mem_nil, or_false, not_or]
    exact ⟨Q6.out.apart C0.out.e.mem.blk (by decide), Q6.out.apart hg (by decide), fun e => N0.out e.symm⟩)))
  clear hp hf C0 O0 Q6 X0 N0
  have e20 : v2.cell? ⟨p, 20, none⟩ = some (.pointer (some ⟨m, 0, none⟩)) := C2.out.e.at20
  go_wp2_with fail
  (with_reducible refine (peek_any C2.out.e.mem 3).mono ?_)
  rintro e wx ⟨rfl, rfl⟩
  rw [HO.out.1]
  go_wp2_with fail
  (with_reducible refine (store_any C2.out.e.mem 1 1).mono ?_)
  rintro e v3 ⟨rfl, hm, hf⟩
  have C3 := Lib.hid (C2.out.acc hm hf HN.out.2.2.1)
  have Q8 := Lib.hid (Q7.out.of_same (hf.block qb Q7.out.lt (by
    obtain ⟨cur, hg, _⟩ := C2.out.e.mem.row.blk
    simp only [List.mem_cons, List.not_mem_nil, or_false, not_or]
    exact ⟨Q7.out.apart C2.out.e.mem.blk (by decide), Q7.out.apart hg (by decide)⟩)))
  clear hm hf C2 Q7 e20
  have q0 : v3.cell? ⟨qb, 0, none⟩ = some (.int .i64 0) := Q8.out.at_ 0
  have q1 : v3.cell? ⟨qb, 1, none⟩ = some (.int .i64 1) := Q8.out.at_ 1
  have q2 : v3.cell? ⟨qb, 2, none⟩ = some (.int .i64 2) := Q8.out.at_ 2
  have q3 : v3.cell? ⟨qb, 3, none⟩ = some (.int .i64 1) := Q8.out.at_ 3
  go_wp2_with fail
  (with_reducible refine (bClear_any 3 5 0 1 2 1 _).mono ?_)
  rintro e w6 ⟨x, rfl, ho, hx, hb⟩
  have C0 := Lib.hid (C3.out.below hb)
  have O0 := Lib.hid ho
  have X0 := Lib.hid (show w.heap.size ≤ x by have := C3.out.b.size; omega)
  clear ho hx hb C3 Q8 q0 q1 q2 q3
  go_wp2_with fail
  (with_reducible refine (alone_clearer C0.out.e O0.out C0.out.n (clearOk1 3 5 1 (by omega)) HR.out.2.2).mono ?_)
  rintro e v4 ⟨rfl, hp, hf⟩
  have C4 := Lib.hid (C0.out.done X0.out hp hf HN.out.2.2.2)
  clear hp hf C0 O0 X0
  have e20 : v4.cell? ⟨p, 20, none⟩ = some (.pointer (some ⟨m, 0, none⟩)) := C4.out.e.at20
  go_wp2_with fail
  (with_reducible refine (peek_any C4.out.e.mem 3).mono ?_)
  rintro e wx ⟨rfl, rfl⟩
  rw [HO.out.2]
  go_wp2
  go_ret
  exact ⟨rfl, C4.out.b⟩
end Go.Proofs.Ytllllbepnnpeeaa

namespace Go.Proofs.Ytllllbepnnpeeaa
open Go Go.RowKit

theorem reti {k : IntKind} {a b : Int} (h : a = b) : Ending.returned (.int k a) = .returned (.int k b) := by rw [h]

theorem power_next (k j q : Nat) (hk : k < 64) (h0 : 0 < j) (hq : q * 2 ^ j = 2 ^ k) : q * 2 * 2 ^ (j - 1) = 2 ^ k ∧ q * 2 < 18446744073709551616 := by
  obtain ⟨i, rfl⟩ : ∃ i, j = i + 1 := ⟨j - 1, by omega⟩
  rw [Nat.pow_succ] at hq
  have e : q * 2 * 2 ^ (i + 1 - 1) = 2 ^ k := by
    rw [show i + 1 - 1 = i by omega, Nat.mul_assoc, Nat.mul_comm 2]
    exact hq
  refine ⟨e, ?_⟩
  have h1 : q * 2 ≤ q * 2 * 2 ^ (i + 1 - 1) := Nat.le_mul_of_pos_right _ (Nat.two_pow_pos _)
  have h2 : (2 : Nat) ^ k ≤ 2 ^ 63 := Nat.pow_le_pow_right (by decide) (by omega)
  omega

set_option maxHeartbeats 400000 in
theorem power_any (k : Nat) (hk : k < 64) (w : World) :
    Calls Try.prog 50 #[.int .i64 (k : Int)] w fun e w' => e = .returned (.int .u64 ((2 ^ k : Nat) : Int)) ∧ w = w' := by
  obtain ⟨P, hP⟩ : ∃ P : Nat, P = 2 ^ k := ⟨_, rfl⟩
  rw [← hP]
  have HP := Lib.hid hP
  clear hP
  go_enter Try.func50, Try.ntmps50
  go_wp2
  go_loop [0, 3] (fun i p => ∃ j q : Nat, j ≤ k ∧ i = .int .i64 (j : Int) ∧ p = .int .u64 (q : Int) ∧ Hid (q * 2 ^ j = 2 ^ k)) (fun i _ => (intOf i).toNat)
  case atStart => exact ⟨k, 1, Nat.le_refl _, rfl, rfl, Lib.hid (by simp)⟩
  case round =>
    obtain ⟨j, q, hj, rfl, rfl, HQ⟩ := hrel
    by_cases h0 : 0 < j
    · obtain ⟨hn, hb⟩ := power_next k j q hk h0 HQ.out
      have HN := Lib.hid hn
      clear hn
      go_wp2
      go_round
      case rel => exact ⟨j - 1, q * 2, by omega, by go_num, by go_num, HN⟩
      case measure => simp [intOf]; omega
    · go_wp2
      go_ret
      obtain rfl : j = 0 := by omega
      have := HQ.out
      rw [HP.out]
      rw [Nat.pow_zero, Nat.mul_one] at this
      rw [← this]
      exact ⟨rfl, rfl⟩

theorem mask_any (i : Int) (w : World) : Calls Try.prog 23 #[.int .i64 i] w fun e w' => e = .returned (.int .u64 (maskS i)) ∧ w = w' := by
  unfold maskS
  by_cases h1 : i < 0
  · rw [if_pos (.inl h1)]
    go_enter Try.func23, Try.ntmps23
    go_wp2
    go_ret
    exact ⟨rfl, rfl⟩
  by_cases h2 : 63 < i
  · rw [if_pos (.inr h2)]
    go_enter Try.func23, Try.ntmps23
    go_wp2
    go_ret
    exact ⟨rfl, rfl⟩
  rw [if_neg (by omega)]
  obtain ⟨k, rfl⟩ : ∃ k : Nat, i = (k : Int) := ⟨i.toNat, by omega⟩
  have HP := Lib.hid (power_any k (by omega) w)
  simp only [Int.toNat_natCast]
  generalize 2 ^ k = P at HP ⊢
  go_enter Try.func23, Try.ntmps23
  go_wp2_with fail
  (with_reducible refine HP.out.mono ?_)
  rintro e w' ⟨rfl, rfl⟩
  go_wp2
  go_ret
  exact ⟨rfl, rfl⟩
end Go.Proofs.Ytllllbepnnpeeaa

namespace Go.Proofs.Ytllllbepnnpeeaa
open Go Go.RowKit Go.Shelf
set_option linter.unusedSimpArgs false
set_option linter.unusedVariables false


theorem has_of {s : St} {n : Nat} (h : s.X.length = n) (i : Int) (h0 : 0 ≤ i) (h1 : i < n) : s.has i := ⟨h0, by omega⟩
set_option maxRecDepth 100000 in
set_option maxHeartbeats 16000000 in
theorem others_law {w : World} (x t b : Nat) (bit : Int) (set : Bool) (hx : x < 18446744073709551616) (ht : t < 18446744073709551616) (hb : b < 18446744073709551616) :
    Calls Try.prog 7 #[.int .u64 (x : Int), .int .u64 (t : Int), .int .u64 (b : Int), .int .i64 bit, .bool set] w fun e w' => e = .returned (.bool true) ∧ Below w.heap.size w w' := by
  obtain ⟨xi, hxi⟩ : ∃ xi : Int, (x : Int) = xi := ⟨_, rfl⟩
  obtain ⟨ti, hti⟩ : ∃ ti : Int, (t : Int) = ti := ⟨_, rfl⟩
  obtain ⟨bi, hbi⟩ : ∃ bi : Int, (b : Int) = bi := ⟨_, rfl⟩
  have hin : InW (w.alloc (.cells #[.int .u64 ti, .int .u64 bi, .int .u64 7, .int .u64 8, .int .u64 xi] 39)) (some ⟨w.heap.size, 0, none⟩) 5 [ti, bi, 7, 8, xi] := inW_new w 39 [ti, bi, 7, 8, xi] (by simp)
  have HM := Lib.hid (mbare_any hin 5 (by omega))
  have B1 := Lib.hid (below_one w (.cells #[.int .u64 ti, .int .u64 bi, .int .u64 7, .int .u64 8, .int .u64 xi] 39))
  have hnn : ∀ y, y ∈ [ti, bi, 7, 8, xi] → 0 ≤ y := by
    intro y hy
    simp only [List.mem_cons, List.not_mem_nil, or_false] at hy
    omega
  have HNN := Lib.hid hnn
  have HXB := Lib.hid (show ∀ P : Int, P = bits .or .u64 xi (maskS bit) ∨ P = bits .and .u64 xi (notU (maskS bit)) ∨ P = bits .or .u64 (bits .and .u64 xi (notU (maskS bit))) (maskS bit) → bits .andNot .u64 (bits .xor .u64 P xi) (maskS bit) = 0 from hxi ▸ word_kept x hx bit)
  rw [hxi, hti, hbi]
  clear hin hnn hxi hti hbi hx ht hb
  go_enter Try.func7, Try.ntmps7
  go_wp2_with fail
  (with_reducible refine HM.out.mono ?_)
  rintro e w5 ⟨p, m, k, g, q, ag, acap, s, rfl, hd, hsX, hsc, hb5⟩
  have hs4 := B1.out.size
  have n0 : s.N := Row.inNN HNN.out hsX
  have A5 := Lib.hid (show BW w p m k g 5 hd0 nilV nilV 0 0 s w5 from ⟨hd.e, n0, B1.out.trans (hb5.mono hs4), Nat.le_trans hs4 hd.bp, Nat.le_trans hs4 hd.bm, Nat.le_trans hs4 hd.bk, Nat.le_trans hs4 hd.bg⟩)
  have h0 : s.old 0 = ti := st_old hsX 0 (by simp)
  have h1 : s.old 1 = bi := st_old hsX 1 (by simp)
  have h2 : s.old 2 = 7 := st_old hsX 2 (by simp)
  have h3 : s.old 3 = 8 := st_old hsX 3 (by simp)
  have h4 : s.old 4 = xi := st_old hsX 4 (by simp)
  have hl : s.has 4 := has_of (n := 5) (by rw [hsX]; rfl) 4 (by omega) (by omega)
  have HS := Lib.hid (And.intro h0 (And.intro h1 (And.intro h2 (And.intro h3 (And.intro h4 hl)))))
  have N0 := Lib.hid n0
  clear hd hsX hsc hb5 hs4 B1 HM n0 h0 h1 h2 h3 h4 hl HNN
  go_wp2_with fail
  (with_reducible refine (awake12_any _).mono ?_)
  rintro e w6 ⟨rfl, hb6⟩
  have A6 := Lib.hid (A5.out.below hb6)
  clear hb6 A5
  obtain ⟨h0, h1, h2, h3, h4, hl⟩ := HS.out
  cases set with
  | true =>
    have rr := run_set s (fraS 4 bit)
    obtain ⟨s1, e1⟩ : ∃ s1, s.go 4 4 (fun x => bits .or .u64 x (maskS bit)) = s1 := ⟨_, rfl⟩
    have r1 : runS setS 9 s (fraS 4 bit) = some (s1, ⟨true, 0, 0⟩, 1) := by rw [← e1]; exact rr
    have k0 : s1.old 0 = ti := by rw [← e1, go_other _ _ _ _ _ (by omega), h0]
    have k1 : s1.old 1 = bi := by rw [← e1, go_other _ _ _ _ _ (by omega), h1]
    have k2 : s1.old 2 = 7 := by rw [← e1, go_other _ _ _ _ _ (by omega), h2]
    have k3 : s1.old 3 = 8 := by rw [← e1, go_other _ _ _ _ _ (by omega), h3]
    have k4 : s1.old 4 = bits .or .u64 xi (maskS bit) := by rw [← e1, go_old _ _ _ _ hl, h4]
    have n1 := runS_N set_keeps 9 N0.out (setOk1 4 bit) r1
    have kw := HXB.out _ (.inl k4)
    have HR := Lib.hid r1
    have HK := Lib.hid (And.intro k0 (And.intro k1 (And.intro k2 (And.intro k3 kw))))
    have N1 := Lib.hid n1
    clear rr e1 r1 k0 k1 k2 k3 k4 n1 kw h0 h1 h2 h3 h4 hl
    go_wp2_with fail
    (with_reducible refine (bSet_any 4 bit _).mono ?_)
    rintro e w7 ⟨y, rfl, ho, hy, hb⟩
    have C0 := Lib.hid (A6.out.below hb)
    have O0 := Lib.hid ho
    have X0 := Lib.hid (show w.heap.size ≤ y by have := A6.out.b.size; omega)
    clear ho hy hb A6
    go_wp2_with fail
    (with_reducible refine (alone_setter C0.out.e O0.out C0.out.n (setOk1 4 bit) HR.out).mono ?_)
    rintro e v1 ⟨rfl, hp, hf⟩
    have C1 := Lib.hid (C0.out.done X0.out hp hf N1.out)
    clear hp hf C0 O0 X0 HR
    have e20 : v1.cell? ⟨p, 20, none⟩ = some (.pointer (some ⟨m, 0, none⟩)) := C1.out.e.at20
    obtain ⟨k0, k1, k2, k3, kw⟩ := HK.out
    go_wp2_with fail
    (with_reducible refine (peek_any C1.out.e.mem 0).mono ?_)
    rintro e wx ⟨rfl, rfl⟩
    rw [k0]
    clear k0
    go_wp2_with fail
    (with_reducible refine (peek_any C1.out.e.mem 1).mono ?_)
    rintro e wx ⟨rfl, rfl⟩
    rw [k1]
    clear k1
    go_wp2_with fail
    (with_reducible refine (peek_any C1.out.e.mem 2).mono ?_)
    rintro e wx ⟨rfl, rfl⟩
    rw [k2]
    clear k2
    go_wp2_with fail
    (with_reducible refine (peek_any C1.out.e.mem 3).mono ?_)
    rintro e wx ⟨rfl, rfl⟩
    rw [k3]
    clear k3
    go_wp2_with fail
    (with_reducible refine (peek_any C1.out.e.mem 4).mono ?_)
    rintro e wx ⟨rfl, rfl⟩
    generalize s1.old 4 = P at *
    go_wp2_with fail
    (with_reducible refine (mask_any bit _).mono ?_)
    rintro e wx ⟨rfl, rfl⟩
    generalize maskS bit = M at *
    have kb : (bits .andNot .u64 (bits .xor .u64 P xi) M == 0) = true := by rw [kw]; rfl
    go_wp2
    go_ret
    exact ⟨rfl, C1.out.b⟩
  | false =>
    obtain ⟨s1, r, N, r1, l1, oo, hc⟩ := run_clear s (fraC 4 bit 0 1 2 2) rfl (by show (4 : Int) ≠ 1; omega) (by show (4 : Int) ≠ 0; omega)
    have k0 : s1.old 0 = ti := (oo 0 (by show (0 : Int) ≠ 4; omega)).trans h0
    have k1 : s1.old 1 = bi := (oo 1 (by show (1 : Int) ≠ 4; omega)).trans h1
    have k2 : s1.old 2 = 7 := (oo 2 (by show (2 : Int) ≠ 4; omega)).trans h2
    have k3 : s1.old 3 = 8 := (oo 3 (by show (3 : Int) ≠ 4; omega)).trans h3
    have kw : bits .andNot .u64 (bits .xor .u64 (s1.old 4) xi) (maskS bit) = 0 := by
      refine HXB.out _ ?_
      rw [← h4]
      rcases hc with ⟨_, _, _, h⟩ | ⟨_, _, _, h⟩
      · exact .inr (.inl (h hl))
      · exact .inr (.inr (h hl))
    have n1 := runS_N clear_keeps 9 N0.out (clearOk1 4 bit 2 (by omega)) r1
    have HR := Lib.hid r1
    have HK := Lib.hid (And.intro k0 (And.intro k1 (And.intro k2 (And.intro k3 kw))))
    have N1 := Lib.hid n1
    clear r1 k0 k1 k2 k3 n1 kw h0 h1 h2 h3 h4 hl l1 oo hc
    go_wp2_with fail
    (with_reducible refine (queue_any 2 _).mono ?_)
    rintro e w8 ⟨rfl, hb8⟩
    have A7 := Lib.hid (A6.out.below hb8)
    clear hb8 A6
    go_wp2_with fail
    (with_reducible refine (bClear_any 4 bit 0 1 2 2 _).mono ?_)
    rintro e w7 ⟨y, rfl, ho, hy, hb⟩
    have C0 := Lib.hid (A7.out.below hb)
    have O0 := Lib.hid ho
    have X0 := Lib.hid (show w.heap.size ≤ y by have := A7.out.b.size; omega)
    clear ho hy hb A7
    go_wp2_with fail
    (with_reducible refine (alone_clearer C0.out.e O0.out C0.out.n (clearOk1 4 bit 2 (by omega)) HR.out).mono ?_)
    rintro e v1 ⟨rfl, hp, hf⟩
    have C1 := Lib.hid (C0.out.done X0.out hp hf N1.out)
    clear hp hf C0 O0 X0 HR
    have e20 : v1.cell? ⟨p, 20, none⟩ = some (.pointer (some ⟨m, 0, none⟩)) := C1.out.e.at20
    obtain ⟨k0, k1, k2, k3, kw⟩ := HK.out
    go_wp2_with fail
    (with_reducible refine (peek_any C1.out.e.mem 0).mono ?_)
    rintro e wx ⟨rfl, rfl⟩
    rw [k0]
    clear k0
    go_wp2_with fail
    (with_reducible refine (peek_any C1.out.e.mem 1).mono ?_)
    rintro e wx ⟨rfl, rfl⟩
    rw [k1]
    clear k1
    go_wp2_with fail
    (with_reducible refine (peek_any C1.out.e.mem 2).mono ?_)
    rintro e wx ⟨rfl, rfl⟩
    rw [k2]
    clear k2
    go_wp2_with fail
    (with_reducible refine (peek_any C1.out.e.mem 3).mono ?_)
    rintro e wx ⟨rfl, rfl⟩
    rw [k3]
    clear k3
    go_wp2_with fail
    (with_reducible refine (peek_any C1.out.e.mem 4).mono ?_)
    rintro e wx ⟨rfl, rfl⟩
    generalize s1.old 4 = P at *
    go_wp2_with fail
    (with_reducible refine (mask_any bit _).mono ?_)
    rintro e wx ⟨rfl, rfl⟩
    generalize maskS bit = M at *
    have kb : (bits .andNot .u64 (bits .xor .u64 P xi) M == 0) = true := by rw [kw]; rfl
    go_wp2
    go_ret
    exact ⟨rfl, C1.out.b⟩
end Go.Proofs.Ytllllbepnnpeeaa
