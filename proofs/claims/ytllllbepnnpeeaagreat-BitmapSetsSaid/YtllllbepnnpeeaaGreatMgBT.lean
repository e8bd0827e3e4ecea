/-
  What the laws about an owner and thieves alone carry along. (Written by wip/gen_oaw.py.)
  Plain mathematics: a set and a clear that run alone, and what they leave of a word. No function is named.
  Package memory: Peek.
  workstealkeep.Queue.
  Words made by a literal, read as an argument.
-/
import Derived.Test.YtllllbepnnpeeaaGreatOwM
import Derived.Test.YtllllbepnnpeeaaGreatMgBH
import Derived.Test.YtllllbepnnpeeaaGreatMgBK
import Derived.Test.YtllllbepnnpeeaaGreatBmM
import Derived.Test.YtllllbepnnpeeaaGreatMgAB
import Derived.Test.YtllllbepnnpeeaaGreatMgAA
import Derived.Test.YtllllbepnnpeeaaGreatMgAO
import Derived.Lib.Hide
import Derived.Test.YtllllbepnnpeeaaGreatMgBJ
namespace Go.Proofs.YtllllbepnnpeeaaGreat
open Go Go.RowKit Go.Shelf
set_option linter.unusedSimpArgs false
set_option linter.unusedVariables false

theorem runS_N {stp : St → Fra → St × Fra × Res} {ok : Fra → Prop} (hk : Keeps stp ok) : ∀ (k : Nat) {s s' : St} {f : Fra} {r : Res} {N : Nat}, s.N → ok f → runS stp k s f = some (s', r, N) → s'.N
  | 0, _, _, _, _, _, _, _, h => by simp [runS] at h
  | k + 1, s, s', f, r, N, hn, ho, h => by
    cases hd : (stp s f).2.2.dn with
    | true =>
      obtain ⟨e, _, _⟩ := runS_end h hd
      rw [← e]
      exact hk.n s f hn ho
    | false =>
      obtain ⟨M, e, _⟩ := runS_on h hd
      exact runS_N hk k (hk.n s f hn ho) (hk.o s f hn ho hd) e

theorem pushOk1 (n : Int) (hn : n ≤ 100) (v : Int) : PushOk (fra1 0 0 1 2 n v) := ⟨.inl rfl, Int.le_refl _, Int.le_refl _, by show n ≤ _; omega⟩
theorem popOk1 (n : Int) (hn : n ≤ 100) : PopOk (fra1 1 0 1 2 n 0) := ⟨.inl rfl, Int.le_refl _, Int.le_refl _, by show n ≤ _; omega⟩

/-- What a law about an owner alone carries along: the program's environment, its deque's value (block qb); all of it is newer than w0. -/
structure AW (w0 : World) (p m k g cap : Nat) (hd : List Value) (rv ev : Value) (t d : Int) (qb n : Nat) (s : St) (w : World) : Prop where
  e : PE w p m k g cap s t d hd rv ev
  q : Blk w qb 52 (qcells 0 1 2 n)
  n : s.N
  b : Below w0.heap.size w0 w
  lo : w0.heap.size ≤ p ∧ w0.heap.size ≤ m ∧ w0.heap.size ≤ k ∧ w0.heap.size ≤ g ∧ w0.heap.size ≤ qb
section
variable {w0 w w' : World} {p m k g cap : Nat} {hd : List Value} {rv ev : Value} {t d : Int} {qb n : Nat} {s s' : St}
theorem AW.below (h : AW w0 p m k g cap hd rv ev t d qb n s w) (hb : Below w.heap.size w w') : AW w0 p m k g cap hd rv ev t d qb n s w' :=
  ⟨h.e.below hb, h.q.below hb, h.n, h.b.trans (hb.mono h.b.size), h.lo⟩
theorem AW.done (h : AW w0 p m k g cap hd rv ev t d qb n s w) {x : Nat} {ty : TypeId} {post : List Value} {f : Fra} {cd vl : Int} (ho : OB w x ty post f cd vl) (ht : ty ≠ 52) (hx : w0.heap.size ≤ x) (hp : PE w' p m k g cap s' t d hd rv ev) (hf : Fr [m, g, x] w w') (hn : s'.N) : AW w0 p m k g cap hd rv ev t d qb n s' w' := by
  obtain ⟨cur, hg, _⟩ := h.e.mem.row.blk
  refine ⟨hp, h.q.of_same (hf.block qb h.q.lt ?_), hn, below_of_fr h.b hf (fun y hy => ?_), h.lo⟩
  · simp only [List.mem_cons, List.not_mem_nil, or_false, not_or]
    exact ⟨h.q.apart h.e.mem.blk (by decide), h.q.apart hg (by decide), h.q.apart ho.blk (fun e => ht e.symm)⟩
  · simp only [List.mem_cons, List.not_mem_nil, or_false] at hy
    rcases hy with rfl | rfl | rfl
    · exact h.lo.2.1
    · exact h.lo.2.2.2.1
    · exact hx
end
theorem dq_new : DQ (St.new 4) 2 0 [] := ⟨by simp [St.new], by decide, by decide, by simp, fun i hi => by simp at hi, by omega⟩
theorem new_N (n : Nat) : (St.new n).N := N_of (fun j hj => by
  have : (St.new n).X.getD j 0 = 0 := by
    show (List.replicate n (0 : Int)).getD j 0 = 0
    rw [List.getD_eq_getElem?_getD, List.getElem?_replicate]
    split <;> rfl
  omega)

theorem Row.inNN {X : List Int} (h : ∀ x, x ∈ X → 0 ≤ x) {s : St} (e : s.X = X) : s.N := N_of (fun j hj => by
  rw [e] at hj ⊢
  rw [List.getD_eq_getElem?_getD, List.getElem?_eq_getElem hj]
  exact h _ (List.getElem_mem hj))
end Go.Proofs.YtllllbepnnpeeaaGreat

namespace Go.Proofs.YtllllbepnnpeeaaGreat
open Go Go.RowKit
set_option linter.unusedSimpArgs false
set_option linter.unusedVariables false

theorem runS_goes {stp : St → Fra → St × Fra × Res} {n N : Nat} {s s1 s' : St} {f f1 : Fra} {r : Res} (h : stp s f = (s1, f1, .none)) (hr : runS stp n s1 f1 = some (s', r, N)) : runS stp (n + 1) s f = some (s', r, N + 1) := by
  unfold runS
  rw [h]
  simp [hr]
theorem runS_ends {stp : St → Fra → St × Fra × Res} {n : Nat} {s s1 : St} {f f1 : Fra} {c v : Int} (h : stp s f = (s1, f1, ⟨true, c, v⟩)) : runS stp (n + 1) s f = some (s1, ⟨true, c, v⟩, 1) := by
  unfold runS
  rw [h]
  simp
theorem run_set (s : St) (f : Fra) : runS setS 9 s f = some (s.go 4 f.fa (fun x => bits .or .u64 x (maskS f.fb)), ⟨true, 0, 0⟩, 1) := runS_ends (f1 := f) rfl
theorem run_clear (s : St) (f : Fra) (h : f.ln = 1) (n1 : f.fa ≠ f.qb) (n2 : f.fa ≠ f.qt) : ∃ s' r N, runS clearS 9 s f = some (s', r, N) ∧ s'.X.length = s.X.length ∧ (∀ j, j ≠ f.fa → s'.old j = s.old j) ∧
    ((sizeI (s.old f.qb) (s.old f.qt) ≤ 0 ∧ r = ⟨true, 2, 0⟩ ∧ N = 3 ∧ (s.has f.fa → s'.old f.fa = bits .and .u64 (s.old f.fa) (notU (maskS f.fb)))) ∨
     (¬ sizeI (s.old f.qb) (s.old f.qt) ≤ 0 ∧ r = ⟨true, 1, 0⟩ ∧ N = 4 ∧ (s.has f.fa → s'.old f.fa = bits .or .u64 (bits .and .u64 (s.old f.fa) (notU (maskS f.fb))) (maskS f.fb)))) := by
  obtain ⟨s1, e1⟩ : ∃ s1, s.go 5 f.fa (fun x => bits .and .u64 x (notU (maskS f.fb))) = s1 := ⟨_, rfl⟩
  have k1 := clearS_1 (s := s) h
  rw [e1] at k1
  have ob : s1.old f.qb = s.old f.qb := by rw [← e1]; exact go_other _ _ _ _ _ n1
  have ot : s1.old f.qt = s.old f.qt := by rw [← e1]; exact go_other _ _ _ _ _ n2
  have l1 : s1.X.length = s.X.length := by rw [← e1]; exact go_len _ _ _ _
  have oj : ∀ j, j ≠ f.fa → s1.old j = s.old j := fun j hj => by rw [← e1]; exact go_other _ _ _ _ _ (fun e => hj e.symm)
  have oa : s.has f.fa → s1.old f.fa = bits .and .u64 (s.old f.fa) (notU (maskS f.fb)) := fun hh => by rw [← e1]; exact go_old _ _ _ _ hh
  have k2 := clearS_2 (s := s1) (f := { f with ln := 2 }) rfl
  have ot2 : (s1.go 1 f.qb id).old f.qt = s.old f.qt := (old_load ..).trans ot
  by_cases hc : sizeI (s.old f.qb) (s.old f.qt) ≤ 0
  · have k3 := clearS_3e (s := s1.go 1 f.qb id) (f := { f with fu := s1.old f.qb, ln := 3 }) rfl (by show sizeI (s1.old f.qb) ((s1.go 1 f.qb id).old f.qt) ≤ 0; rw [ob, ot2]; exact hc)
    refine ⟨_, _, _, runS_goes k1 (runS_goes k2 (runS_ends k3)), ?_, fun j hj => ?_, .inl ⟨hc, rfl, rfl, fun hh => ?_⟩⟩
    · rw [go_len, go_len, l1]
    · rw [old_load, old_load, oj j hj]
    · rw [old_load, old_load, oa hh]
  · have k3 := clearS_3 (s := s1.go 1 f.qb id) (f := { f with fu := s1.old f.qb, ln := 3 }) rfl (by show ¬ sizeI (s1.old f.qb) ((s1.go 1 f.qb id).old f.qt) ≤ 0; rw [ob, ot2]; exact hc)
    have k4 := clearS_4 (s := (s1.go 1 f.qb id).go 1 f.qt id) (f := { f with fu := s1.old f.qb, fv := (s1.go 1 f.qb id).old f.qt, ln := 4 }) rfl
    refine ⟨_, _, _, runS_goes k1 (runS_goes k2 (runS_goes k3 (runS_ends k4))), ?_, fun j hj => ?_, .inr ⟨hc, rfl, rfl, fun hh => ?_⟩⟩
    · rw [go_len, go_len, go_len, l1]
    · show (St.go _ 4 f.fa _).old j = _
      rw [go_other _ _ _ _ _ (fun e => hj e.symm), old_load, old_load, oj j hj]
    · show (St.go _ 4 f.fa _).old f.fa = _
      rw [go_old _ _ _ _ (by rw [go_has, go_has, ← e1, go_has]; exact hh), old_load, old_load, oa hh]
theorem maskS_some (i : Int) : ∃ M : Nat, M < 18446744073709551616 ∧ maskS i = M := by
  unfold maskS
  split
  · exact ⟨0, by decide, rfl⟩
  · exact ⟨2 ^ i.toNat, pow_lt64 _ (by omega), rfl⟩
theorem word_bits (P x M : Nat) (hP : P < 18446744073709551616) (hx : x < 18446744073709551616) (hM : M < 18446744073709551616) (h : ∀ i, M.testBit i = false → P.testBit i = x.testBit i) : bits .andNot .u64 (bits .xor .u64 (P : Int) (x : Int)) (M : Int) = 0 := by
  have h1 : P ^^^ x < 2 ^ 64 := Nat.xor_lt_two_pow hP hx
  rw [u64_xor_nat P x hP hx, u64_andNot_nat _ M h1 hM]
  have : (P ^^^ x) &&& (18446744073709551615 - M) = 0 := by
    apply Nat.eq_of_testBit_eq
    intro i
    have e2 : 18446744073709551615 - M = 2 ^ 64 - (M + 1) := by omega
    rw [e2, Nat.testBit_and, Nat.testBit_xor, Nat.testBit_two_pow_sub_succ hM, Nat.zero_testBit]
    cases hm : M.testBit i with
    | true => simp
    | false => rw [h i hm]; simp
  rw [this]
  rfl
theorem word_or (x M : Nat) (hx : x < 18446744073709551616) (hM : M < 18446744073709551616) : ∃ P : Nat, P < 18446744073709551616 ∧ bits .or .u64 (x : Int) (M : Int) = P ∧ ∀ i, M.testBit i = false → P.testBit i = x.testBit i :=
  ⟨x ||| M, Nat.or_lt_two_pow (n := 64) hx hM, u64_or_nat x M hx hM, fun i hi => by rw [Nat.testBit_or, hi, Bool.or_false]⟩
theorem word_and (x M : Nat) (hx : x < 18446744073709551616) (hM : M < 18446744073709551616) : ∃ P : Nat, P < 18446744073709551616 ∧ bits .and .u64 (x : Int) (notU (M : Int)) = P ∧ ∀ i, M.testBit i = false → P.testBit i = x.testBit i := by
  refine ⟨x &&& (18446744073709551615 ^^^ M), Nat.and_lt_two_pow (n := 64) _ (not_lt64 M hM), ?_, fun i hi => ?_⟩
  · rw [notU_nat M hM]
    exact u64_and_nat x _ hx (not_lt64 M hM)
  · have e1 : (18446744073709551615 : Nat) = 2 ^ 64 - 1 := by decide
    rw [Nat.testBit_and, Nat.testBit_xor, hi, e1, Nat.testBit_two_pow_sub_one]
    by_cases h : i < 64
    · simp [h]
    · have hp : 18446744073709551616 ≤ 2 ^ i := Nat.pow_le_pow_right (n := 2) (by decide) (show 64 ≤ i by omega)
      have a := Nat.testBit_lt_two_pow (Nat.lt_of_lt_of_le hx hp)
      simp [a]
/-- What Set and Clear leave of a word: no other bit has changed. -/
theorem word_kept (x : Nat) (hx : x < 18446744073709551616) (bit P : Int) (h : P = bits .or .u64 x (maskS bit) ∨ P = bits .and .u64 x (notU (maskS bit)) ∨ P = bits .or .u64 (bits .and .u64 x (notU (maskS bit))) (maskS bit)) : bits .andNot .u64 (bits .xor .u64 P x) (maskS bit) = 0 := by
  obtain ⟨M, hM, e⟩ := maskS_some bit
  rw [e] at h ⊢
  rcases h with rfl | rfl | rfl
  · obtain ⟨P, hP, e, hb⟩ := word_or x M hx hM
    rw [e]
    exact word_bits P x M hP hx hM hb
  · obtain ⟨P, hP, e, hb⟩ := word_and x M hx hM
    rw [e]
    exact word_bits P x M hP hx hM hb
  · obtain ⟨P, hP, e, hb⟩ := word_and x M hx hM
    obtain ⟨P2, hP2, e2, hb2⟩ := word_or P M hP hM
    rw [e, e2]
    exact word_bits P2 x M hP2 hx hM (fun i hi => (hb2 i hi).trans (hb i hi))
end Go.Proofs.YtllllbepnnpeeaaGreat

namespace Go.Proofs.YtllllbepnnpeeaaGreat
open Go Go.RowKit Go.Shelf

theorem peek_any {w : World} {p g cap : Nat} {s : St} (h : Mem w p g cap s) (i : Int) :
    Calls Tryz.prog 43 #[.pointer (some ⟨p, 0, none⟩), .int .i64 i] w fun e w' => e = .returned (.int .u64 (s.old i)) ∧ w = w' := by
  have h0 : w.cell? ⟨p, 0, none⟩ = some (.slice (some ⟨g, 0, none⟩) s.X.length cap) := h.blk.at_ 0
  have hs := h.small
  by_cases hi : s.has i
  · obtain ⟨j, rfl⟩ : ∃ j : Nat, i = (j : Int) := ⟨i.toNat, by have := hi.1; omega⟩
    have hj : j < s.X.length := by have := hi.2; omega
    have hc := h.row.cell hj
    simp only [St.old, if_pos hi, Int.toNat_natCast]
    generalize s.X.getD j 0 = x at *
    have H := has_yes h hj
    go_enter Tryz.func43, Tryz.ntmps43
    go_wp2_with fail
    refine H.mono ?_
    rintro e w' ⟨rfl, rfl⟩
    go_wp2
    go_ret
    exact ⟨rfl, rfl⟩
  · have H := Lib.hid (has_no h (St.has_no hi))
    simp only [St.old, if_neg hi]
    go_enter Tryz.func43, Tryz.ntmps43
    go_wp2_with fail
    refine H.out.mono ?_
    rintro e w' ⟨rfl, rfl⟩
    go_wp2
    go_ret
    exact ⟨rfl, rfl⟩
end Go.Proofs.YtllllbepnnpeeaaGreat

namespace Go.Proofs.YtllllbepnnpeeaaGreat
open Go Go.RowKit
set_option linter.unusedSimpArgs false

theorem queue_any (n : Int) (w : World) : Calls Tryz.prog 22 #[.int .i64 n] w fun e w' => e = .returned (qv 0 1 2 n) ∧ Below w.heap.size w w' := by
  have HB := Lib.hid (below_one w (.cells #[.int .i64 0, .int .i64 1, .int .i64 2, .int .i64 n] 52))
  have HX := Lib.hid (Blk.made w 52 #[.int .i64 0, .int .i64 1, .int .i64 2, .int .i64 n])
  go_enter Tryz.func22, Tryz.ntmps22
  go_wp2
  refine bodyPost_ret (results_cell_row (P := Tryz.prog) Tryz.results22 _ _ w.heap.size 52 _ (0, 0) _ rfl HX.out Tryz.underlying52 rfl (by kernel_rfl)) rfl ?_
  exact ⟨rfl, HB.out⟩
end Go.Proofs.YtllllbepnnpeeaaGreat

namespace Go.Proofs.YtllllbepnnpeeaaGreat
open Go Go.RowKit
set_option linter.unusedSimpArgs false
set_option linter.unusedVariables false

theorem inW_new (w : World) (ty : TypeId) (X : List Int) (h : X.length ≤ 1000) : InW (w.alloc (.cells (X.map (Value.int .u64)).toArray ty)) (some ⟨w.heap.size, 0, none⟩) X.length X := by
  refine ⟨rfl, by unfold maxLen; omega, fun i hi => ⟨⟨w.heap.size, 0, none⟩, rfl, by simp, ?_⟩⟩
  have e : (⟨w.heap.size, 0, none⟩ : Addr).add i = ⟨w.heap.size, i, none⟩ := by unfold Addr.add; split <;> simp_all
  rw [e, (Blk.made w ty _).at_ i, List.getElem?_toArray, List.getElem?_map, List.getD_eq_getElem?_getD, List.getElem?_eq_getElem hi]
  rfl
end Go.Proofs.YtllllbepnnpeeaaGreat
