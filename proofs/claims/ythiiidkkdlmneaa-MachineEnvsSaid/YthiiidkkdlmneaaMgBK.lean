/-
  Package machine: Run of a counter.
  Package machine: awake, and the walk of the statement MachineRuns.
-/
import Derived.Test.YthiiidkkdlmneaaMgBJ
import Derived.LoopTactic
import Derived.Test.YthiiidkkdlmneaaMgBI
namespace Go.Proofs.Ythiiidkkdlmneaa
open Go Go.RowKit Go.Shelf

/-- The state behind j additions of 1 to cell c. -/
def addS (s : St) (c : Int) : Nat → St
  | 0 => s
  | j + 1 => (addS s c j).go 6 c fun x => IntKind.u64.wrap (x + 1)

theorem addS_has (s : St) (c j : Int) : ∀ n, (addS s c n).has j ↔ s.has j
  | 0 => Iff.rfl
  | n + 1 => (go_has _ _ _ _ _).trans (addS_has s c j n)
theorem addS_old (s : St) (c : Int) (h : s.has c) (x : Nat) (hx : s.old c = x) : ∀ n : Nat, x + n < 18446744073709551616 → (addS s c n).old c = ((x + n : Nat) : Int)
  | 0, _ => hx
  | n + 1, hn => by
    unfold addS
    rw [go_old _ _ _ _ ((addS_has s c c n).2 h), addS_old s c h x hx n (by omega)]
    exact (IntWalk.u64_in _ (by omega)).trans (by omega)
theorem addS_other (s : St) (c j : Int) (h : c ≠ j) : ∀ n : Nat, (addS s c n).old j = s.old j
  | 0 => rfl
  | n + 1 => (go_other _ _ _ _ _ h).trans (addS_other s c j h n)

/-- One step of a counter with n steps left, of which j have been made. -/
def StepAt (w : World) (p m k g cap : Nat) (s : St) (t d : Int) (hd : List Value) (rv ev : Value) (q : Nat) (c : Int) (n j : Nat) (e : Ending) (w' : World) : Prop :=
  e = .returned (.bool (decide (max 1 n ≤ j + 1))) ∧ PE w' p m k g cap (addS s c (min n (j + 1))) t d hd rv ev ∧ Cnt w' q c ((n - min n (j + 1) : Nat) : Int) ∧ Fr [m, g, q] w w'

theorem step_at {w : World} {p m k g cap : Nat} {s : St} {t d : Int} {hd : List Value} {rv ev : Value} {q : Nat} {c : Int} {n j : Nat} (hn : n ≤ 100) (h : PE w p m k g cap (addS s c (min n j)) t d hd rv ev) (hq : Cnt w q c ((n - min n j : Nat) : Int)) :
    Calls Try.prog 97 #[.pointer (some ⟨q, 0, none⟩), .pointer (some ⟨p, 0, none⟩)] w (StepAt w p m k g cap s t d hd rv ev q c n j) := by
  by_cases hj : n ≤ j
  · have e1 : min n j = n := by omega
    have e2 : min n (j + 1) = n := by omega
    rw [e1, Nat.sub_self] at hq
    rw [e1] at h
    refine (step_zero hq _).mono ?_
    rintro e w' ⟨rfl, rfl⟩
    unfold StepAt
    rw [e2, Nat.sub_self, decide_eq_true (by omega)]
    exact ⟨rfl, h, hq, Fr.refl _ _⟩
  · have e1 : min n j = j := by omega
    have e2 : min n (j + 1) = j + 1 := by omega
    obtain ⟨l, hl⟩ : ∃ l, n - j = l + 1 := ⟨n - j - 1, by omega⟩
    rw [e1, hl] at hq
    rw [e1] at h
    refine (step_more h (l := l) (by omega) hq).mono ?_
    rintro e w' ⟨rfl, h', hq', hf⟩
    unfold StepAt
    rw [e2, show n - (j + 1) = l by omega, show decide (max 1 n ≤ j + 1) = decide (l = 0) by rw [Bool.eq_iff_iff]; simp; omega]
    exact ⟨rfl, h', hq', hf⟩

/-- What Run gives. -/
def Ran (w : World) (p m k g cap : Nat) (s : St) (t d : Int) (hd : List Value) (rv ev : Value) (q : Nat) (c : Int) (n M : Nat) (e : Ending) (w' : World) : Prop :=
  e = .returned (.tuple #[.int .i64 ((min (max 1 n) M : Nat) : Int), .bool (decide (max 1 n ≤ M))]) ∧ PE w' p m k g cap (addS s c (min n M)) t d hd rv ev ∧ Cnt w' q c ((n - min n M : Nat) : Int) ∧ Fr [m, g, q] w w'

theorem ran_of {w w' : World} {p m k g cap : Nat} {s : St} {t d : Int} {hd : List Value} {rv ev : Value} {q : Nat} {c : Int} {n M j : Nat} (hj : j ≤ min (max 1 n) M) (hd1 : max 1 n ≤ j ∨ M ≤ j) (hp : PE w' p m k g cap (addS s c (min n j)) t d hd rv ev) (hc : Cnt w' q c ((n - min n j : Nat) : Int)) (hf : Fr [m, g, q] w w') :
    Ran w p m k g cap s t d hd rv ev q c n M (.returned (.tuple #[.int .i64 (j : Int), .bool (decide (max 1 n ≤ j))])) w' := by
  unfold Ran
  rw [show min (max 1 n) M = j by omega, show min n M = min n j by omega, show decide (max 1 n ≤ M) = decide (max 1 n ≤ j) by rw [Bool.eq_iff_iff]; simp; omega]
  exact ⟨rfl, hp, hc, hf⟩

abbrev mval (q : Nat) : Value := .iface 85 (.pointer (some ⟨q, 0, none⟩))

/-- Which method the interface's value has. -/
theorem meth_step (a : Addr) (w : World) : (method 275 85 (.pointer (some a)) "Step").run Try.prog w = .ok (97, .pointer (some a)) w := by kernel_rfl
/-- It is no nil. -/
theorem ahead_step (a : Addr) (w : World) : (nilAhead 275 85 (.pointer (some a)) "Step").run Try.prog w = .ok (some false) w := by kernel_rfl

set_option maxRecDepth 100000 in
set_option maxHeartbeats 1000000 in
theorem run_any {w : World} {p m k g cap : Nat} {s : St} {t d : Int} {hd : List Value} {rv ev : Value} (h : PE w p m k g cap s t d hd rv ev) {q : Nat} {c : Int} {n : Nat} (hn : n ≤ 100) (hq : Cnt w q c n) (most : Int) :
    Calls Try.prog 32 #[.pointer (some ⟨p, 0, none⟩), mval q, .int .i64 most] w (Ran w p m k g cap s t d hd rv ev q c n most.toNat) := by
  obtain ⟨M, hM⟩ : ∃ M, most.toNat = M := ⟨_, rfl⟩
  rw [hM]
  have HM := Lib.hid hM
  clear hM
  go_enter Try.func32, Try.ntmps32
  go_wp2_with fail
  go_loopw [6, 7] (fun i dn wr => ∃ j : Nat, j ≤ min (max 1 n) M ∧ i = .int .i64 j ∧ dn = .bool (decide (max 1 n ≤ j)) ∧ PE wr p m k g cap (addS s c (min n j)) t d hd rv ev ∧ Cnt wr q c ((n - min n j : Nat) : Int) ∧ Fr [m, g, q] w wr) (fun i _ _ => 200 - (intOf i).toNat)
  case atStart => exact ⟨0, by omega, rfl, by rw [decide_eq_false (by omega)], by simpa [addS] using h, by simpa using hq, Fr.refl _ _⟩
  case round =>
    obtain ⟨j, hj, rfl, rfl, hp, hc, hf⟩ := hrel
    have HP := Lib.hid hp
    have HC := Lib.hid hc
    have HF := Lib.hid hf
    clear hp hc hf h hq
    have km := meth_step ⟨q, 0, none⟩
    have ka := ahead_step ⟨q, 0, none⟩
    by_cases hlt : j < M
    · have h1 : (j : Int) < most := by have := HM.out; omega
      by_cases hd1 : max 1 n ≤ j
      · rw [decide_eq_true hd1]
        go_wp2_with fail
        go_ret2
        have hr := ran_of hj (.inl hd1) HP.out HC.out HF.out
        rw [decide_eq_true hd1] at hr
        exact hr
      · rw [decide_eq_false hd1]
        go_wp2_with fail
        (with_reducible refine (step_at hn HP.out HC.out).mono ?_)
        rintro e w1 ⟨rfl, hp, hc, hf⟩
        have ej : wrap64 ((j : Int) + 1) = ((j + 1 : Nat) : Int) := by unfold wrap64; omega
        go_wp2_with fail
        go_roundw
        case rel => exact ⟨j + 1, by omega, by go_num, rfl, hp, hc, HF.out.trans hf⟩
        case measure => simp [intOf]; omega
    · have h1 : decide ((j : Int) < most) = false := decide_eq_false (by have := HM.out; omega)
      have hr := Lib.hid (ran_of hj (.inr (by omega)) HP.out HC.out HF.out)
      clear km ka
      generalize decide (max 1 n ≤ j) = b at *
      go_wp2_with fail
      go_ret2
      exact hr.out
end Go.Proofs.Ythiiidkkdlmneaa

namespace Go.Proofs.Ythiiidkkdlmneaa
open Go Go.RowKit Go.Shelf

theorem below_of_fr {w0 w w' : World} {S : List Nat} (h : Below w0.heap.size w0 w) (hf : Fr S w w') (hs : ∀ x ∈ S, w0.heap.size ≤ x) : Below w0.heap.size w0 w' :=
  h.trans (hf.below h.size hs)

theorem cnt_made (w : World) (c l : Int) : Cnt (w.alloc (.cells #[.int .i64 c, .int .i64 l] 87)) w.heap.size c l := Blk.made w _ _

set_option maxRecDepth 100000 in
set_option maxHeartbeats 1000000 in
theorem awake_any (w : World) :
    Calls Try.prog 9 #[] w fun e w' => e = .returned (.bool true) ∧ Below w.heap.size w w' := by
  go_enter Try.func9, Try.ntmps9
  go_wp2_with fail
  (with_reducible refine (pbare_any 1 w).mono ?_)
  rintro e w1 ⟨p, m, k, g, rfl, hp, hb, l1, l2, l3, l4⟩
  have e1 : sizeS 1 = 1 := rfl
  rw [e1] at hp
  have h20 := hp.at20
  have HP := Lib.hid hp
  have HB := Lib.hid hb
  clear hb e1
  go_wp2_with fail
  (with_reducible refine (run_any (n := 3) (hp.alloc _) (by decide) (cnt_made w1 0 3) 10).mono ?_)
  rintro e w2 ⟨rfl, hp2, hc2, hf2⟩
  have b2 := Lib.hid (below_of_fr (HB.out.alloc HB.out.size _) hf2 (by have := HB.out.size; intro x hx; simp only [List.mem_cons, List.not_mem_nil, or_false] at hx; omega))
  clear hc2 hf2 hp HP HB h20
  go_wp2_with fail
  (with_reducible refine (run_any (n := 3) (hp2.alloc _) (by decide) (cnt_made w2 0 3) 2).mono ?_)
  rintro e w3 ⟨rfl, hp3, hc3, hf3⟩
  have b3 := Lib.hid (below_of_fr (b2.out.alloc b2.out.size _) hf3 (by have := b2.out.size; intro x hx; simp only [List.mem_cons, List.not_mem_nil, or_false] at hx; omega))
  have h20 := hp3.at20
  have HP3 := Lib.hid hp3
  clear hc3 hf3 hp2 b2 hp3
  have hold : (addS (addS (St.new 1) 0 (min 3 (10 : Int).toNat)) 0 (min 3 (2 : Int).toNat)).old 0 = 5 := by kernel_rfl
  have H := Lib.hid (peek_any HP3.out.mem 0)
  rw [hold] at H
  clear hold
  go_wp2_with fail
  (with_reducible refine H.out.mono ?_)
  rintro e w4 ⟨rfl, rfl⟩
  go_wp2
  go_ret
  exact ⟨rfl, b3.out⟩
end Go.Proofs.Ythiiidkkdlmneaa
