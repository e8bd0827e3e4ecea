/-
  Plain mathematics of a worker's deques at all levels: what Push and Pop of levels alone do. No function is named.
-/
import Derived.Test.YtgipddeldddbnaaGreatMgBB
import Derived.Test.YtgipddeldddbnaaGreatLvQ
import Derived.Test.YtgipddeldddbnaaGreatBmq
namespace Go.Proofs.YtgipddeldddbnaaGreat
open Go Go.RowKit
set_option linter.unusedSimpArgs false
set_option linter.unusedVariables false

/-- Which cells a machine on a deque changes. -/
structure Touch (stp : St → Fra → St × Fra × Res) : Prop where
  o : ∀ (s : St) (f : Fra) (j : Int), f.qt ≠ j → f.qb ≠ j → (∀ i, ringI f.qr f.qc i ≠ j) → (stp s f).1.old j = s.old j
  q : ∀ (s : St) (f : Fra), (stp s f).2.1.qt = f.qt ∧ (stp s f).2.1.qb = f.qb ∧ (stp s f).2.1.qr = f.qr ∧ (stp s f).2.1.qc = f.qc
theorem push_touch : Touch pushS := by
  refine ⟨fun s f j ht hb hr => ?_, fun s f => ?_⟩
  · unfold pushS
    split
    · exact go_other _ _ _ _ _ hb
    split
    · split <;> exact go_other _ _ _ _ _ ht
    split
    · exact go_other _ _ _ _ _ (hr _)
    · exact go_other _ _ _ _ _ hb
  · unfold pushS
    split
    · exact ⟨rfl, rfl, rfl, rfl⟩
    split
    · split <;> exact ⟨rfl, rfl, rfl, rfl⟩
    split <;> exact ⟨rfl, rfl, rfl, rfl⟩
theorem pop_touch : Touch popS := by
  refine ⟨fun s f j ht hb hr => ?_, fun s f => ?_⟩
  · unfold popS
    split
    · exact go_other _ _ _ _ _ hb
    split
    · split <;> exact go_other _ _ _ _ _ ht
    split
    · exact go_other _ _ _ _ _ hb
    split
    · exact go_other _ _ _ _ _ ht
    split
    · exact go_other _ _ _ _ _ (hr _)
    split
    · exact go_other _ _ _ _ _ ht
    split
    · exact go_other _ _ _ _ _ hb
    · exact go_other _ _ _ _ _ hb
  · unfold popS
    split
    · exact ⟨rfl, rfl, rfl, rfl⟩
    split
    · split <;> exact ⟨rfl, rfl, rfl, rfl⟩
    split
    · exact ⟨rfl, rfl, rfl, rfl⟩
    split
    · exact ⟨rfl, rfl, rfl, rfl⟩
    split
    · exact ⟨rfl, rfl, rfl, rfl⟩
    split
    · exact ⟨rfl, rfl, rfl, rfl⟩
    split <;> exact ⟨rfl, rfl, rfl, rfl⟩
theorem runS_touch {stp : St → Fra → St × Fra × Res} (h : Touch stp) : ∀ {n : Nat} {s s' : St} {f : Fra} {r : Res} {N : Nat}, runS stp n s f = some (s', r, N) → ∀ j, f.qt ≠ j → f.qb ≠ j → (∀ i, ringI f.qr f.qc i ≠ j) → s'.old j = s.old j
  | 0, _, _, _, _, _, hr => by simp [runS] at hr
  | n + 1, s, s', f, r, N, hr => by
    intro j ht hb hrg
    cases hd : (stp s f).2.2.dn with
    | true =>
      obtain ⟨e1, e2, e3⟩ := runS_end hr hd
      rw [← e1]
      exact h.o s f j ht hb hrg
    | false =>
      obtain ⟨M, e1, e2⟩ := runS_on hr hd
      obtain ⟨q1, q2, q3, q4⟩ := h.q s f
      rw [runS_touch h e1 j (by rw [q1]; exact ht) (by rw [q2]; exact hb) (by rw [q3, q4]; exact hrg), h.o s f j ht hb hrg]
theorem runS_len {stp : St → Fra → St × Fra × Res} {ok : Fra → Prop} (h : Keeps stp ok) : ∀ {n : Nat} {s s' : St} {f : Fra} {r : Res} {N : Nat}, runS stp n s f = some (s', r, N) → s'.X.length = s.X.length
  | 0, _, _, _, _, _, hr => by simp [runS] at hr
  | n + 1, s, s', f, r, N, hr => by
    cases hd : (stp s f).2.2.dn with
    | true =>
      obtain ⟨e1, e2, e3⟩ := runS_end hr hd
      rw [← e1]
      exact h.l s f
    | false =>
      obtain ⟨M, e1, e2⟩ := runS_on hr hd
      rw [runS_len h e1, h.l]
theorem runS_U {stp : St → Fra → St × Fra × Res} (h : KeepsU stp) : ∀ {n : Nat} {s s' : St} {f : Fra} {r : Res} {N : Nat}, runS stp n s f = some (s', r, N) → s.U → f.U → s'.U
  | 0, _, _, _, _, _, hr => by simp [runS] at hr
  | n + 1, s, s', f, r, N, hr => by
    intro hs hf
    cases hd : (stp s f).2.2.dn with
    | true =>
      obtain ⟨e1, e2, e3⟩ := runS_end hr hd
      rw [← e1]
      exact (h s f hs hf).1
    | false =>
      obtain ⟨M, e1, e2⟩ := runS_on hr hd
      exact runS_U h e1 (h s f hs hf).1 (h s f hs hf).2
/-- The cells of a ring. -/
theorem ring_in (A n : Nat) (hA : A ≤ 100000) (hn : 1 ≤ n ∧ n ≤ 100) (i j : Int) (h : j < (A + 2 : Nat) ∨ ((A + 2 + n : Nat) : Int) ≤ j) : ringI ((A + 2 : Nat) : Int) n i ≠ j := by
  unfold ringI
  rw [if_neg (by omega)]
  have h0 := Int.emod_nonneg i (show (n : Int) ≠ 0 by omega)
  have h1 := Int.emod_lt_of_pos i (show (0 : Int) < (n : Int) by omega)
  generalize i % (n : Int) = y at *
  unfold wrap64
  omega
theorem runS_far {stp : St → Fra → St × Fra × Res} (h : Touch stp) {n : Nat} {s s' : St} {f : Fra} {r : Res} {N A k : Nat} (hr : runS stp n s f = some (s', r, N)) (hA : A ≤ 100000) (hk : 1 ≤ k ∧ k ≤ 100) (e1 : f.qt = (A : Int)) (e2 : f.qb = ((A + 1 : Nat) : Int)) (e3 : f.qr = ((A + 2 : Nat) : Int)) (e4 : f.qc = (k : Int)) (j : Int) (hj : j < (A : Int) ∨ ((A + k + 2 : Nat) : Int) ≤ j) : s'.old j = s.old j :=
  runS_touch h hr j (by rw [e1]; omega) (by rw [e2]; omega) (fun i => by rw [e3, e4]; exact ring_in A k hA hk i j (by omega))
theorem DA.frame {s s' : St} {A n t : Nat} {l : List Int} (h : DA s A n t l) (hl : s'.X.length = s.X.length) (ho : ∀ j : Int, (A : Int) ≤ j → j < ((A + n + 2 : Nat) : Int) → s'.old j = s.old j) : DA s' A n t l := by
  have hn := h.nn
  refine ⟨h.hA, by rw [hl]; exact h.len, ?_, ?_, h.cap, fun i hi => ?_, hn⟩
  · rw [ho _ (by omega) (by omega)]; exact h.top
  · rw [ho _ (by omega) (by omega)]; exact h.bot
  · have hm := Nat.mod_lt (t + i) (show n > 0 by omega)
    rw [ho _ (by omega) (by omega)]
    exact h.ent i hi

/-- The greatest bit. -/
theorem top_bit (x : Nat) : ∀ m : Nat, (∀ j, m ≤ j → x.testBit j = false) → x = 0 ∨ ∃ i, i < m ∧ x.testBit i = true ∧ ∀ j, i < j → x.testBit j = false
  | 0, h => .inl (Nat.eq_of_testBit_eq (fun j => by rw [h j (Nat.zero_le _), Nat.zero_testBit]))
  | m + 1, h => by
    cases hb : x.testBit m with
    | true => exact .inr ⟨m, by omega, hb, fun j hj => h j (by omega)⟩
    | false =>
      rcases top_bit x m (fun j hj => by
        rcases Nat.eq_or_lt_of_le hj with e | e
        · rw [← e]; exact hb
        · exact h j e) with h0 | ⟨i, h1, h2, h3⟩
      · exact .inl h0
      · exact .inr ⟨i, by omega, h2, h3⟩
theorem hiS_top {x i : Nat} (hx : x < 18446744073709551616) (hi : i < 64) (h : x.testBit i = true) (hz : ∀ j, i < j → x.testBit j = false) : hiS x = i := by
  unfold hiS
  rw [bitLen_bit x i hx hi h (fun j h1 _ => hz j h1)]
  omega

/-- A list of lists with one changed. -/
def updL (ls : Nat → List Int) (a : Nat) (l : List Int) : Nat → List Int := fun b => if b = a then l else ls b
theorem updL_same (ls : Nat → List Int) (a : Nat) (l : List Int) : updL ls a l a = l := if_pos rfl
theorem updL_other (ls : Nat → List Int) {a b : Nat} (l : List Int) (h : b ≠ a) : updL ls a l b = ls b := if_neg h
def updT (T : Nat → Nat) (a t : Nat) : Nat → Nat := fun b => if b = a then t else T b
theorem updT_same (T : Nat → Nat) (a t : Nat) : updT T a t a = t := if_pos rfl
theorem updT_other (T : Nat → Nat) {a b : Nat} (t : Nat) (h : b ≠ a) : updT T a t b = T b := if_neg h

/-- Places of worker 0's cells in a configuration: n levels, k entries; the bitmap is cell m, the deques begin at D. -/
structure LvC (c : Cfg) (n k m D : Nat) : Prop where
  q : ∀ a : Nat, a < n → rQueue c 0 a = (((D + a * (2 + k) : Nat) : Int), ((D + a * (2 + k) + 1 : Nat) : Int), ((D + a * (2 + k) + 2 : Nat) : Int), (k : Int))
  b : rBitmap c 0 = (m : Int)
  hm : m < D
  hD : D ≤ 300
  hn : 1 ≤ n ∧ n ≤ 64
  hk : 1 ≤ k ∧ k ≤ 64
theorem LvC.far {c : Cfg} {n k m D : Nat} (h : LvC c n k m D) {a b : Nat} (ha : a < b) : D + a * (2 + k) + (2 + k) ≤ D + b * (2 + k) := by
  have : (a + 1) * (2 + k) ≤ b * (2 + k) := Nat.mul_le_mul_right _ ha
  rw [Nat.add_mul] at this
  omega
theorem LvC.small {c : Cfg} {n k m D : Nat} (h : LvC c n k m D) {a : Nat} (ha : a < n) : D + a * (2 + k) ≤ 100000 := by
  have h1 := h.hn
  have h2 := h.hk
  have h3 := h.hD
  have : a * (2 + k) ≤ 64 * 66 := Nat.mul_le_mul (by omega) (by omega)
  omega

/-- The deques of worker 0 hold the words ls; the bit of each level with entries is 1, and no bit beyond the levels. -/
structure LvI (c : Cfg) (n k m D : Nat) (s : St) (T : Nat → Nat) (ls : Nat → List Int) (B : Nat) : Prop where
  dq : ∀ a, a < n → DA s (D + a * (2 + k)) k (T a) (ls a)
  bm : ∃ x : Nat, s.old (m : Int) = x ∧ x < 18446744073709551616 ∧ (∀ a, a < n → ls a ≠ [] → x.testBit a = true) ∧ ∀ a, n ≤ a → x.testBit a = false
  u : s.U
  bd : ∀ a, a < n → T a + (ls a).length ≤ B
section
variable {c : Cfg} {n k m D : Nat} {s s' : St} {T : Nat → Nat} {ls : Nat → List Int} {B : Nat}
theorem LvI.hasM (h : LvI c n k m D s T ls B) (hc : LvC c n k m D) : s.has (m : Int) := by
  have h1 := (h.dq 0 (by have := hc.hn; omega)).len
  have := hc.hm
  exact ⟨by omega, by omega⟩
/-- Only the deque of one level changes. -/
theorem LvI.one (h : LvI c n k m D s T ls B) (hc : LvC c n k m D) {a : Nat} (ha : a < n) {t : Nat} {l : List Int} {B' : Nat} (hB : B ≤ B') (hd : DA s' (D + a * (2 + k)) k t l) (hu : s'.U)
    (ho : ∀ j : Int, j < ((D + a * (2 + k) : Nat) : Int) ∨ ((D + a * (2 + k) + k + 2 : Nat) : Int) ≤ j → s'.old j = s.old j) (hl : s'.X.length = s.X.length) (htB : t + l.length ≤ B')
    (hbit : l ≠ [] → ∀ x : Nat, s.old (m : Int) = x → x.testBit a = true) : LvI c n k m D s' (updT T a t) (updL ls a l) B' := by
  obtain ⟨x, e1, e2, e3, e4⟩ := h.bm
  have hm := hc.hm
  refine ⟨fun b hb => ?_, ⟨x, ?_, e2, fun b hb hne => ?_, e4⟩, hu, fun b hb => ?_⟩
  · by_cases e : b = a
    · subst e
      rw [updT_same, updL_same]
      exact hd
    · rw [updT_other T t e, updL_other ls l e]
      refine (h.dq b hb).frame hl (fun j h1 h2 => ho j ?_)
      rcases Nat.lt_or_gt_of_ne e with e | e
      · have := hc.far e
        exact .inl (by omega)
      · have := hc.far e
        exact .inr (by omega)
  · rw [ho _ (.inl (by omega))]
    exact e1
  · by_cases e : b = a
    · subst e
      rw [updL_same] at hne
      exact hbit hne x e1
    · rw [updL_other ls l e] at hne
      exact e3 b hb hne
  · by_cases e : b = a
    · subst e
      rw [updT_same, updL_same]
      exact htB
    · rw [updT_other T t e, updL_other ls l e]
      have := h.bd b ‹_›
      omega
theorem updT_self (T : Nat → Nat) (a : Nat) : updT T a (T a) = T := by
  funext b
  unfold updT
  split
  · rename_i h; rw [h]
  · rfl
theorem updL_self (ls : Nat → List Int) (a : Nat) : updL ls a (ls a) = ls := by
  funext b
  unfold updL
  split
  · rename_i h; rw [h]
  · rfl
theorem LvI.more (h : LvI c n k m D s T ls B) {B' : Nat} (hb : B ≤ B') : LvI c n k m D s T ls B' := ⟨h.dq, h.bm, h.u, fun a ha => Nat.le_trans (h.bd a ha) hb⟩
/-- An access that reads a word changes nothing. -/
theorem LvI.load (h : LvI c n k m D s T ls B) (i : Int) : LvI c n k m D (s.go 1 i id) T ls B := by
  obtain ⟨x, e1, e2, e3, e4⟩ := h.bm
  exact ⟨fun a ha => (h.dq a ha).load _ _, ⟨x, by rw [old_load]; exact e1, e2, e3, e4⟩, go_U h.u _ _ _ (fun x hx => hx), h.bd⟩
/-- The bits change, the deques don't. -/
theorem LvI.word (h : LvI c n k m D s T ls B) (hc : LvC c n k m D) {y : Nat} (hl : s'.X.length = s.X.length) (ho : ∀ j : Int, j ≠ (m : Int) → s'.old j = s.old j) (hy : s'.old (m : Int) = y) (hy2 : y < 18446744073709551616) (hb : ∀ a, a < n → ls a ≠ [] → y.testBit a = true) (hz : ∀ a, n ≤ a → y.testBit a = false) : LvI c n k m D s' T ls B := by
  have hm := hc.hm
  refine ⟨fun a ha => (h.dq a ha).frame hl (fun j h1 h2 => ho j (by omega)), ⟨y, hy, hy2, hb, hz⟩, fun j => ?_, h.bd⟩
  by_cases e : j = (m : Int)
  · rw [e, hy]
    exact ⟨by omega, by omega⟩
  · rw [ho j e]
    exact h.u j
end
/-- Push for worker 0, Pop for worker 0. -/
abbrev fPush (a v : Int) : Fra := ⟨5, 1, 0, 0, 0, 0, 0, a, v, 0, 0, 0, 0, 0, 0, 0, 0, .slice none 0 0⟩

section
variable {c : Cfg} {n k m D : Nat} {s : St} {T : Nat → Nat} {ls : Nat → List Int} {B : Nat}
theorem child_push (h : LvC c n k m D) {a : Nat} (ha : a < n) (v : Int) : lvChild c (fPush a v) = fra1 0 ((D + a * (2 + k) : Nat) : Int) ((D + a * (2 + k) + 1 : Nat) : Int) ((D + a * (2 + k) + 2 : Nat) : Int) (k : Int) v := by
  unfold lvChild
  rw [if_pos rfl, if_pos rfl]
  show fra1 0 (rQueue c 0 a).1 (rQueue c 0 a).2.1 (rQueue c 0 a).2.2.1 (rQueue c 0 a).2.2.2 v = _
  rw [h.q a ha]
theorem LvI.full (h : LvI c n k m D s T ls B) (hc : LvC c n k m D) {a : Nat} (ha : a < n) (hl : (ls a).length = k) (v : Int) : ∃ s', RunM (lvS c) s (fPush a v, none) s' ⟨true, 3, 0⟩ 2 ∧ LvI c n k m D s' T ls B := by
  obtain ⟨s', hr, hd⟩ := (h.dq a ha).full hl v
  have hn : ¬ ((fPush a v).kd = 6 ∧ (fPush a v).ln = 1) := by rintro ⟨h1, _⟩; cases h1
  have hk := (RunM.of_runS hr).k lvK_push (fun s f => (push_keeps.q s f).2.2) rfl
  have he := RunM.end_ (c := c) hn hk none (by show lvChild c _ = _; exact child_push hc ha v) rfl
  refine ⟨s', he, ?_⟩
  have h1 := hc.small ha
  have hi := h.one hc ha (Nat.le_refl B) hd (runS_U push_U hr h.u (fra1_U ..)) (fun j hj => runS_far push_touch hr h1 (by have := hc.hk; omega) rfl rfl rfl rfl j hj) (runS_len push_keeps hr) (h.bd a ha) (fun hne x hx => by
    obtain ⟨y, e1, _, e3, _⟩ := h.bm
    have : y = x := by have := e1.symm.trans hx; omega
    subst this
    exact e3 a ha hne)
  rw [updT_self, updL_self] at hi
  exact hi
theorem run_set_any (s : St) (f : Fra) : RunM setS s f (s.go 4 f.fa (fun x => bits .or .u64 x (maskS f.fb))) ⟨true, 0, 0⟩ 1 := RunM.last (stp := setS) (s := s) (x := f) rfl
theorem bit_or (x a : Nat) (hx : x < 18446744073709551616) (ha : a < 64) : ∃ y : Nat, bits .or .u64 (x : Int) (maskS (a : Int)) = y ∧ y < 18446744073709551616 ∧ y.testBit a = true ∧ ∀ b, b ≠ a → y.testBit b = x.testBit b := by
  refine ⟨x ||| 2 ^ a, by rw [maskS_nat a ha]; exact u64_or_nat x (2 ^ a) hx (pow_lt64 a ha), Nat.or_lt_two_pow (n := 64) hx (pow_lt64 a ha), ?_, fun b hb => ?_⟩
  · rw [Nat.testBit_or, Nat.testBit_two_pow_self, Bool.or_true]
  · rw [Nat.testBit_or, Nat.testBit_two_pow_of_ne (Ne.symm hb), Bool.or_false]
theorem bit_and (x a : Nat) (hx : x < 18446744073709551616) (ha : a < 64) : ∃ y : Nat, bits .and .u64 (x : Int) (notU (maskS (a : Int))) = y ∧ y < 18446744073709551616 ∧ y.testBit a = false ∧ ∀ b, b ≠ a → y.testBit b = x.testBit b := by
  refine ⟨x &&& (18446744073709551615 ^^^ 2 ^ a), ?_, Nat.lt_of_le_of_lt Nat.and_le_left hx, ?_, fun b hb => ?_⟩
  · rw [maskS_nat a ha, notU_nat _ (pow_lt64 a ha)]
    exact u64_and_nat x _ hx (not_lt64 _ (pow_lt64 a ha))
  · have e1 : (18446744073709551615 : Nat) = 2 ^ 64 - 1 := by decide
    rw [Nat.testBit_and, Nat.testBit_xor, e1, Nat.testBit_two_pow_sub_one, Nat.testBit_two_pow_self]
    simp [ha]
  · have e1 : (18446744073709551615 : Nat) = 2 ^ 64 - 1 := by decide
    rw [Nat.testBit_and, Nat.testBit_xor, e1, Nat.testBit_two_pow_sub_one, Nat.testBit_two_pow_of_ne (Ne.symm hb)]
    by_cases h : b < 64
    · simp [h]
    · have hp : 18446744073709551616 ≤ 2 ^ b := Nat.pow_le_pow_right (n := 2) (by decide) (show 64 ≤ b by omega)
      have a := Nat.testBit_lt_two_pow (Nat.lt_of_lt_of_le hx hp)
      simp [a]
theorem LvI.push (h : LvI c n k m D s T ls B) (hc : LvC c n k m D) {a : Nat} (ha : a < n) (hl : (ls a).length < k) (hB : B ≤ 1000000) (v : Int) : ∃ s', RunM (lvS c) s (fPush a v, none) s' ⟨true, 0, 0⟩ 5 ∧ LvI c n k m D s' T (updL ls a (ls a ++ [IntKind.u64.wrap v])) (B + 1) := by
  have hbd := h.bd a ha
  obtain ⟨s1, hr, hd⟩ := (h.dq a ha).push hl (by omega) v
  have hn : ¬ ((fPush a v).kd = 6 ∧ (fPush a v).ln = 1) := by rintro ⟨h1, _⟩; cases h1
  have hk := (RunM.of_runS hr).k lvK_push (fun s f => (push_keeps.q s f).2.2) rfl
  have h1 := hc.small ha
  have hn64 : a < 64 := by have := hc.hn; omega
  have ho1 : ∀ j : Int, j < ((D + a * (2 + k) : Nat) : Int) ∨ ((D + a * (2 + k) + k + 2 : Nat) : Int) ≤ j → s1.old j = s.old j := fun j hj => runS_far push_touch hr h1 (by have := hc.hk; omega) rfl rfl rfl rfl j hj
  have hl1 := runS_len push_keeps hr
  have hu1 := runS_U push_U hr h.u (fra1_U ..)
  have hm := hc.hm
  obtain ⟨x, e1, e2, e3, e4⟩ := h.bm
  have hx1 : s1.old (m : Int) = x := by rw [ho1 _ (.inl (by omega))]; exact e1
  obtain ⟨y, hy1, hy2, hy3, hy4⟩ := bit_or x a e2 hn64
  have hh1 : s1.has (m : Int) := by
    have := h.hasM hc
    exact ⟨this.1, by rw [hl1]; exact this.2⟩
  have hcs : lvChild c { fPush a v with ln := 2 } = { fra1 3 0 0 0 0 (m : Int) with fb := (a : Int) } := by
    unfold lvChild
    rw [if_pos rfl, if_neg (by show ¬ ((2 : Int) = 1); decide)]
    show ({ fra1 3 0 0 0 0 (rBitmap c 0) with fb := (a : Int) } : Fra) = _
    rw [hc.b]
  have hset := (run_set_any s1 { fra1 3 0 0 0 0 (m : Int) with fb := (a : Int) }).k lvK_set (fun s f => rfl) rfl
  have h2 := RunM.end_ (c := c) (f := { fPush a v with ln := 2 }) (by rintro ⟨h1, _⟩; cases h1) hset none hcs rfl
  have h3 := RunM.next (c := c) hn hk none (by show lvChild c _ = _; exact child_push hc ha v) rfl h2
  refine ⟨_, h3, ?_⟩
  have hs2 : (s1.go 4 (m : Int) (fun x => bits .or .u64 x (maskS (a : Int)))).old (m : Int) = y := by rw [go_old _ _ _ _ hh1, hx1, hy1]
  have hs3 : ∀ j : Int, j ≠ (m : Int) → (s1.go 4 (m : Int) (fun x => bits .or .u64 x (maskS (a : Int)))).old j = s1.old j := fun j hj => go_other _ _ _ _ _ (fun e => hj e.symm)
  have hl2 : (s1.go 4 (m : Int) (fun x => bits .or .u64 x (maskS (a : Int)))).X.length = s1.X.length := go_len _ _ _ _
  show LvI c n k m D (s1.go 4 (m : Int) (fun x => bits .or .u64 x (maskS (a : Int)))) _ _ _
  generalize s1.go 4 (m : Int) (fun x => bits .or .u64 x (maskS (a : Int))) = s2 at *
  refine ⟨fun b hb => ?_, ⟨y, hs2, hy2, fun b hb hne => ?_, fun b hb => ?_⟩, fun j => ?_, fun b hb => ?_⟩
  · by_cases e : b = a
    · subst e
      rw [updL_same]
      exact hd.frame hl2 (fun j j1 j2 => hs3 j (by omega))
    · rw [updL_other ls _ e]
      refine (h.dq b hb).frame (by rw [hl2, hl1]) (fun j j1 j2 => ?_)
      rw [hs3 j (by omega), ho1 j]
      rcases Nat.lt_or_gt_of_ne e with e | e
      · have := hc.far e
        exact .inl (by omega)
      · have := hc.far e
        exact .inr (by omega)
  · by_cases e : b = a
    · subst e
      exact hy3
    · rw [updL_other ls _ e] at hne
      rw [hy4 b e]
      exact e3 b hb hne
  · rw [hy4 b (by omega)]
    exact e4 b hb
  · by_cases e : j = (m : Int)
    · rw [e, hs2]
      exact ⟨by omega, by omega⟩
    · rw [hs3 j e]
      exact hu1 j
  · by_cases e : b = a
    · subst e
      rw [updL_same, List.length_append, List.length_singleton]
      omega
    · rw [updL_other ls _ e]
      have := h.bd b hb
      omega

theorem child_pop (h : LvC c n k m D) {a : Nat} (ha : a < n) {f : Fra} (hk : f.kd = 6) (hl : f.ln = 2) (hfa : f.fa = 0) (hfi : f.fi = (a : Int)) : lvChild c f = fra1 1 ((D + a * (2 + k) : Nat) : Int) ((D + a * (2 + k) + 1 : Nat) : Int) ((D + a * (2 + k) + 2 : Nat) : Int) (k : Int) 0 := by
  unfold lvChild
  rw [if_neg (by omega), if_pos hl, hfa, hfi, h.q a ha]
theorem child_clear (h : LvC c n k m D) {a : Nat} (ha : a < n) {f : Fra} (hk : f.kd = 6) (hl : f.ln = 3) (hfa : f.fa = 0) (hfi : f.fi = (a : Int)) : lvChild c f = { fra1 4 ((D + a * (2 + k) : Nat) : Int) ((D + a * (2 + k) + 1 : Nat) : Int) ((D + a * (2 + k) + 2 : Nat) : Int) (k : Int) (m : Int) with fb := (a : Int) } := by
  unfold lvChild
  rw [if_neg (by omega), if_neg (by omega), hfa, hfi, h.q a ha, h.b]

/-- What a Pop gives. -/
def Popped (c : Cfg) (n k m D : Nat) (ls : Nat → List Int) (T : Nat → Nat) (B : Nat) (s' : St) (r : Res) : Prop :=
  (r = ⟨true, 2, 0⟩ ∧ (∀ a, a < n → ls a = []) ∧ s'.old (m : Int) = 0 ∧ LvI c n k m D s' T ls B) ∨
  ∃ a l u t, a < n ∧ ls a = l ++ [u] ∧ (∀ b, a < b → b < n → ls b = []) ∧ r = ⟨true, 1, IntKind.i64.wrap u⟩ ∧ LvI c n k m D s' (updT T a t) (updL ls a l) B
theorem LvI.pop (hc : LvC c n k m D) (hB : B ≤ 1000000) : ∀ (M : Nat) (s : St) (f : Fra), M ≤ n → LvI c n k m D s T ls B → (∀ x : Nat, s.old (m : Int) = x → ∀ a, M ≤ a → x.testBit a = false) → f.kd = 6 → f.ln = 1 → f.fa = 0 → ∃ s' r N, RunM (lvS c) s (f, none) s' r N ∧ N ≤ 6 * M + 8 ∧ Popped c n k m D ls T B s' r := by
  intro M
  induction M using Nat.strongRecOn with
  | _ M ih =>
  intro s f hM h hz hk hl hfa
  obtain ⟨x, e1, e2, e3, e4⟩ := h.bm
  have hbm : rBitmap c f.fa = (m : Int) := by rw [hfa]; exact hc.b
  rcases top_bit x M (hz x e1) with h0 | ⟨a, haM, hbit, htop⟩
  · subst h0
    have e := lvS_top0 (c := c) (s := s) (g := none) hk hl (by rw [hbm]; exact e1)
    have hr := RunM.last (stp := lvS c) (s := s) (x := (f, none)) (by rw [e])
    rw [e] at hr
    refine ⟨_, _, _, hr, by omega, .inl ⟨rfl, fun a ha => ?_, by rw [old_load]; exact e1, h.load _⟩⟩
    by_cases hne : ls a = []
    · exact hne
    · have := e3 a ha hne
      rw [Nat.zero_testBit] at this
      cases this
  · have ha : a < n := by omega
    have ha64 : a < 64 := by have := hc.hn; omega
    have hx0 : ¬ s.old (rBitmap c f.fa) = 0 := by
      rw [hbm, e1]
      intro hx
      have : x = 0 := by omega
      rw [this, Nat.zero_testBit] at hbit
      cases hbit
    have e := lvS_top (c := c) (s := s) (g := none) hk hl hx0
    have hfi : hiS (s.old (rBitmap c f.fa)).toNat = (a : Int) := by
      rw [hbm, e1, Int.toNat_natCast]
      exact hiS_top e2 ha64 hbit htop
    have hlod := h.load (rBitmap c f.fa)
    have hol : ∀ j, (s.go 1 (rBitmap c f.fa) id).old j = s.old j := fun j => old_load ..
    rw [hfi] at e
    obtain ⟨f1, hf1⟩ : ∃ f1 : Fra, ({ f with fu := s.old (rBitmap c f.fa), fi := (a : Int), ln := 2 } : Fra) = f1 := ⟨_, rfl⟩
    have k1 : f1.kd = 6 := by rw [← hf1]; exact hk
    have l1 : f1.ln = 2 := by rw [← hf1]
    have a1 : f1.fa = 0 := by rw [← hf1]; exact hfa
    have i1 : f1.fi = (a : Int) := by rw [← hf1]
    rw [hf1] at e
    clear hf1
    obtain ⟨s1, hs1⟩ : ∃ s1, s.go 1 (rBitmap c f.fa) id = s1 := ⟨_, rfl⟩
    rw [hs1] at e hlod hol
    have hn1 : ¬ (f1.kd = 6 ∧ f1.ln = 1) := by omega
    have hsm := hc.small ha
    have first : ∀ {s2 : St} {r : Res} {N : Nat}, RunM (lvS c) s1 (f1, none) s2 r N → RunM (lvS c) s (f, none) s2 r (N + 1) := by
      intro s2 r N h2
      refine RunM.cons (by rw [e]) ?_
      rw [e]
      exact h2
    have below : ∀ b, a < b → b < n → ls b = [] := fun b hb hbn => by
      by_cases hne : ls b = []
      · exact hne
      · have := e3 b hbn hne
        rw [htop b hb] at this
        cases this
    have hda := hlod.dq a ha
    have hbd := h.bd a ha
    by_cases hle : ls a = []
    · rw [hle] at hda
      obtain ⟨s2, hr, hd⟩ := hda.none
      have hkr := (RunM.of_runS hr).k lvK_pop (fun s f => (pop_keeps.q s f).2.2) rfl
      have ho2 : ∀ j : Int, j < ((D + a * (2 + k) : Nat) : Int) ∨ ((D + a * (2 + k) + k + 2 : Nat) : Int) ≤ j → s2.old j = s1.old j := fun j hj => runS_far pop_touch hr hsm (by have := hc.hk; omega) rfl rfl rfl rfl j hj
      have hl2 := runS_len pop_keeps hr
      have h2 := hlod.one hc ha (Nat.le_refl B) hd (runS_U pop_U hr hlod.u (fra1_U ..)) ho2 hl2 (by rw [hle] at hbd; exact hbd) (fun hne => absurd rfl hne)
      rw [updT_self, ← hle, updL_self] at h2
      have hm := hc.hm
      have hx2 : s2.old (m : Int) = x := by rw [ho2 _ (.inl (by omega)), hol]; exact e1
      -- the clear
      obtain ⟨y, hy1, hy2, hy3, hy4⟩ := bit_and x a e2 ha64
      obtain ⟨s3, r3, N3, hr3, hl3, ho3, hres⟩ := run_clear s2 { fra1 4 ((D + a * (2 + k) : Nat) : Int) ((D + a * (2 + k) + 1 : Nat) : Int) ((D + a * (2 + k) + 2 : Nat) : Int) (k : Int) (m : Int) with fb := (a : Int) } rfl (by show (m : Int) ≠ ((D + a * (2 + k) + 1 : Nat) : Int); omega) (by show (m : Int) ≠ ((D + a * (2 + k) : Nat) : Int); omega)
      replace ho3 : ∀ j : Int, j ≠ (m : Int) → s3.old j = s2.old j := ho3
      have hsz : sizeI (s2.old ((D + a * (2 + k) + 1 : Nat) : Int)) (s2.old ((D + a * (2 + k) : Nat) : Int)) ≤ 0 := by
        rw [hd.bot, hd.top, List.length_nil, size_of (by omega) (by omega)]
        omega
      rcases hres with ⟨_, hr4, hN4, hw⟩ | ⟨hno, _⟩
      · have hw' : s3.old (m : Int) = y := by
          have := hw (h2.hasM hc)
          rw [show (({ fra1 4 ((D + a * (2 + k) : Nat) : Int) ((D + a * (2 + k) + 1 : Nat) : Int) ((D + a * (2 + k) + 2 : Nat) : Int) (k : Int) (m : Int) with fb := (a : Int) } : Fra)).fa = (m : Int) from rfl] at this
          rw [this]
          show bits .and .u64 (s2.old (m : Int)) (notU (maskS (a : Int))) = _
          rw [hx2, hy1]
        have h3 := h2.word hc hl3 ho3 hw' hy2 (fun b hb hne => by
          by_cases eb : b = a
          · rw [eb] at hne
            exact absurd hle hne
          · rw [hy4 b eb]
            exact e3 b hb hne) (fun b hb => by rw [hy4 b (by omega)]; exact e4 b hb)
        have hkc := (RunM.of_runS hr3).k lvK_clear (fun s f => (clear_keeps.q s f).2.2) rfl
        rw [hr4, hN4] at hkc
        obtain ⟨s5, r5, N5, hr5, hN5, hP5⟩ := ih a haM s3 { f1 with ln := 1 } (by omega) h3 (fun z hz' b hb => by
          have : y = z := by have := hw'.symm.trans hz'; omega
          subst this
          by_cases eb : b = a
          · rw [eb]; exact hy3
          · rw [hy4 b eb]
            exact htop b (by omega)) k1 rfl a1
        have b1 : lvBack f1 2 0 = ({ f1 with ln := 3 }, .none) := by
          unfold lvBack
          rw [if_neg (by omega), if_neg (by omega), if_neg (by decide)]
        have b3 : lvBack { f1 with ln := 3 } 2 0 = ({ f1 with ln := 1 }, .none) := by
          unfold lvBack
          rw [if_neg (by show ¬ f1.kd = 5; omega), if_pos rfl]
        have c3 := RunM.next (c := c) (f := { f1 with ln := 3 }) (by rintro ⟨_, h⟩; exact absurd (show (3 : Int) = 1 from h) (by decide)) hkc none (by show lvChild c _ = _; exact child_clear hc ha k1 rfl a1 i1) (by rw [b3]) (by rw [b3]; exact hr5)
        have c2 := RunM.next (c := c) (f := f1) hn1 hkr none (by show lvChild c _ = _; exact child_pop hc ha k1 l1 a1 i1) (by rw [b1]) (by rw [b1]; exact c3)
        exact ⟨s5, r5, _, first c2, by omega, hP5⟩
      · exact absurd hsz hno
    · obtain ⟨l, u, hlu⟩ : ∃ l u, ls a = l ++ [u] := ⟨(ls a).dropLast, (ls a).getLast hle, (List.dropLast_concat_getLast hle).symm⟩
      rw [hlu] at hda
      have hlen : (ls a).length = l.length + 1 := by rw [hlu]; simp
      have hbit' : ∀ y : Nat, s1.old (m : Int) = y → y.testBit a = true := fun y hy => by
        rw [hol] at hy
        have : x = y := by have := e1.symm.trans hy; omega
        rw [← this]
        exact hbit
      have hrun : ∃ s2 t N, runS popS 20 s1 (fra1 1 ((D + a * (2 + k) : Nat) : Int) ((D + a * (2 + k) + 1 : Nat) : Int) ((D + a * (2 + k) + 2 : Nat) : Int) (k : Int) 0) = some (s2, ⟨true, 1, IntKind.i64.wrap u⟩, N) ∧ DA s2 (D + a * (2 + k)) k t l ∧ t + l.length ≤ B ∧ N ≤ 7 := by
        rcases Nat.eq_zero_or_pos l.length with h0 | h0
        · obtain rfl : l = [] := List.eq_nil_of_length_eq_zero h0
          obtain ⟨s2, hr, hd⟩ := DA.last (v := u) hda (by omega)
          exact ⟨s2, _, 7, hr, hd, by simp at hlen ⊢; omega, by omega⟩
        · obtain ⟨s2, hr, hd⟩ := DA.pop (v := u) hda h0 (by omega)
          exact ⟨s2, _, 5, hr, hd, by omega, by omega⟩
      obtain ⟨s2, t, N, hr, hd, htB, hN⟩ := hrun
      have hkr := (RunM.of_runS hr).k lvK_pop (fun s f => (pop_keeps.q s f).2.2) rfl
      have ho2 : ∀ j : Int, j < ((D + a * (2 + k) : Nat) : Int) ∨ ((D + a * (2 + k) + k + 2 : Nat) : Int) ≤ j → s2.old j = s1.old j := fun j hj => runS_far pop_touch hr hsm (by have := hc.hk; omega) rfl rfl rfl rfl j hj
      have h2 := hlod.one hc ha (Nat.le_refl B) hd (runS_U pop_U hr hlod.u (fra1_U ..)) ho2 (runS_len pop_keeps hr) htB (fun _ => hbit')
      have b1 : lvBack f1 1 (IntKind.i64.wrap u) = (f1, ⟨true, 1, IntKind.i64.wrap u⟩) := by
        unfold lvBack
        rw [if_neg (by omega), if_neg (by omega), if_pos rfl]
      have c2 := RunM.end_ (c := c) (f := f1) hn1 hkr none (by show lvChild c _ = _; exact child_pop hc ha k1 l1 a1 i1) (by rw [b1])
      rw [b1] at c2
      exact ⟨s2, _, _, first c2, by omega, .inr ⟨a, l, u, t, ha, hlu, below, rfl, h2⟩⟩
end
end Go.Proofs.YtgipddeldddbnaaGreat
