/-
  Plain mathematics of scripts: machines, complete lists, rounds, fairness. An entry is a pair of its Kind and its Value.
-/
namespace Go.Proofs.Ytpaacpcmijhcmaa

/-- The number from 0 to n - 1 that differs from d by a multiple of n; 0 if n is less than 1. -/
def drw (d n : Int) : Int := if n < 1 then 0 else if d.tmod n < 0 then d.tmod n + n else d.tmod n
theorem drw_low (d n : Int) (h : n < 1) : drw d n = 0 := if_pos h
theorem drw_neg (d n : Int) (h : ¬ n < 1) (h' : d.tmod n < 0) : drw d n = d.tmod n + n := by rw [drw, if_neg h, if_pos h']
theorem drw_pos (d n : Int) (h : ¬ n < 1) (h' : ¬ d.tmod n < 0) : drw d n = d.tmod n := by rw [drw, if_neg h, if_neg h']
theorem tmod_in (d n : Int) (h : ¬ n < 1) : -n < d.tmod n ∧ d.tmod n < n := by
  have h1 := Int.tmod_lt_of_pos d (show 0 < n by omega)
  have h2 := Int.lt_tmod_of_pos d (show 0 < n by omega)
  omega
theorem drw_in (d n : Int) (h : 1 ≤ n) : 0 ≤ drw d n ∧ drw d n < n := by
  have hr := tmod_in d n (by omega)
  unfold drw
  rw [if_neg (by omega)]
  split <;> omega
theorem drw_self (d n : Int) (h : 0 ≤ d) (h' : d < n) : drw d n = d := by
  unfold drw
  rw [if_neg (by omega), Int.tmod_eq_of_lt h h', if_neg (by omega)]

/-- The machine that an entry picks, -1 if it picks none. -/
def cls (n : Int) (e : Int × Int) : Int := if e.1 = 0 ∧ 1 ≤ n then drw e.2 n else -1
theorem cls_other (n : Int) (e : Int × Int) (h : e.1 ≠ 0) : cls n e = -1 := if_neg (by omega)
theorem cls_low (n : Int) (e : Int × Int) (h : n < 1) : cls n e = -1 := if_neg (by omega)
theorem cls_pick (n : Int) (e : Int × Int) (h : e.1 = 0) (hn : 1 ≤ n) : cls n e = drw e.2 n := if_pos ⟨h, hn⟩
theorem cls_in (n : Int) (e : Int × Int) (h : e.1 = 0) (hn : 1 ≤ n) : 0 ≤ cls n e ∧ cls n e < n := by
  rw [cls_pick n e h hn]
  exact drw_in _ _ hn
theorem cls_bounds (n : Int) (hn : 1 ≤ n) (e : Int × Int) : -1 ≤ cls n e ∧ cls n e < n := by
  by_cases h : e.1 = 0
  · have := cls_in n e h hn
    omega
  · rw [cls_other n e h]
    omega

/-- A list is complete: a tick, and each machine. -/
def Comp (n : Int) (l : List (Int × Int)) : Prop := (∃ e ∈ l, e.1 = 1) ∧ ∀ m : Int, 0 ≤ m → m < n → ∃ e ∈ l, cls n e = m
def compB (n : Int) (l : List (Int × Int)) : Bool := (l.any fun e => e.1 == 1) && (List.range n.toNat).all fun m => l.any fun e => cls n e == (m : Int)
theorem compB_iff (n : Int) (l : List (Int × Int)) : compB n l = true ↔ Comp n l := by
  unfold compB Comp
  simp only [Bool.and_eq_true, List.any_eq_true, List.all_eq_true, beq_iff_eq, List.mem_range]
  constructor
  · rintro ⟨h1, h2⟩
    refine ⟨h1, fun m h0 hm => ?_⟩
    obtain ⟨e, he, h⟩ := h2 m.toNat (by omega)
    exact ⟨e, he, by omega⟩
  · rintro ⟨h1, h2⟩
    exact ⟨h1, fun m hm => h2 m (by omega) (by omega)⟩
theorem compB_false (n : Int) (l : List (Int × Int)) : compB n l = false ↔ ¬ Comp n l := by
  rw [← compB_iff]
  simp
theorem Comp.mono {n : Int} {l l' : List (Int × Int)} (h : Comp n l) (hs : ∀ e, e ∈ l → e ∈ l') : Comp n l' := by
  obtain ⟨⟨e, he, h1⟩, h2⟩ := h
  exact ⟨⟨e, hs e he, h1⟩, fun m h0 hm => by
    obtain ⟨e, he, h⟩ := h2 m h0 hm
    exact ⟨e, hs e he, h⟩⟩
theorem not_comp_nil (n : Int) : ¬ Comp n [] := fun h => by
  obtain ⟨⟨e, he, _⟩, _⟩ := h
  cases he
theorem compB_nil (n : Int) : compB n [] = false := (compB_false n []).2 (not_comp_nil n)

/-- Different numbers that all occur in a list are no more than its elements. -/
theorem length_le_of_mem {α : Type} [DecidableEq α] : ∀ (l r : List α), l.Nodup → (∀ x ∈ l, x ∈ r) → l.length ≤ r.length
  | [], r, _, _ => by simp
  | x :: l, r, hd, hm => by
    obtain ⟨h1, h2⟩ := List.nodup_cons.1 hd
    have hx : x ∈ r := hm x (by simp)
    have ih := length_le_of_mem l (r.erase x) h2 (fun y hy => by
      have hne : y ≠ x := fun e => h1 (e ▸ hy)
      exact (List.mem_erase_of_ne hne).2 (hm y (by simp [hy])))
    rw [List.length_erase_of_mem hx] at ih
    have := List.length_pos_of_mem hx
    simp only [List.length_cons]
    omega

/-- A tick's code is n, a pick's the machine, others' -1. -/
def code (n : Int) (e : Int × Int) : Int := if e.1 = 1 then n else cls n e
theorem code_tick (n : Int) (e : Int × Int) (h : e.1 = 1) : code n e = n := if_pos h
theorem code_other (n : Int) (e : Int × Int) (h : e.1 ≠ 1) : code n e = cls n e := if_neg h
theorem code_bounds (n : Int) (hn : 1 ≤ n) (e : Int × Int) : -1 ≤ code n e ∧ code n e ≤ n := by
  unfold code
  split
  · omega
  · have := cls_bounds n hn e
    omega
theorem comp_code (n : Int) (hn : 1 ≤ n) (l : List (Int × Int)) : Comp n l ↔ ∀ c : Int, 0 ≤ c → c ≤ n → ∃ e ∈ l, code n e = c := by
  constructor
  · rintro ⟨⟨e, he, h1⟩, h2⟩ c h0 hc
    by_cases hcn : c = n
    · exact ⟨e, he, by rw [code_tick n e h1, hcn]⟩
    · obtain ⟨e, he, h⟩ := h2 c h0 (by omega)
      refine ⟨e, he, ?_⟩
      by_cases ht : e.1 = 1
      · rw [cls_other n e (by omega)] at h
        omega
      · rw [code_other n e ht, h]
  · intro h
    constructor
    · obtain ⟨e, he, hc⟩ := h n (by omega) (by omega)
      refine ⟨e, he, ?_⟩
      by_cases ht : e.1 = 1
      · exact ht
      · rw [code_other n e ht] at hc
        have := cls_bounds n hn e
        omega
    · intro m h0 hm
      obtain ⟨e, he, hc⟩ := h m h0 (by omega)
      refine ⟨e, he, ?_⟩
      by_cases ht : e.1 = 1
      · rw [code_tick n e ht] at hc
        omega
      · rw [code_other n e ht] at hc
        exact hc

theorem Comp.len {n : Int} {l : List (Int × Int)} (hn : 1 ≤ n) (h : Comp n l) : n + 1 ≤ l.length := by
  have hc := (comp_code n hn l).1 h
  have h1 : ((List.range (n.toNat + 1)).map fun m : Nat => (m : Int)).length ≤ (l.map (code n)).length := by
    refine length_le_of_mem _ _ ?_ ?_
    · rw [List.Nodup, List.pairwise_map]
      exact (List.nodup_range (n := n.toNat + 1)).imp (fun h e => h (by omega))
    · intro x hx
      obtain ⟨m, hm, rfl⟩ := List.mem_map.1 hx
      rw [List.mem_range] at hm
      obtain ⟨e, he, hce⟩ := hc m (by omega) (by omega)
      exact List.mem_map.2 ⟨e, he, hce⟩
  simp at h1
  omega

/-- The rounds of what is left, behind the entries of a round that has begun. -/
def rnds (n : Int) : List (Int × Int) → List (Int × Int) → Nat
  | _, [] => 0
  | cur, e :: r => if compB n (cur ++ [e]) then rnds n [] r + 1 else rnds n (cur ++ [e]) r
theorem rnds_yes {n : Int} {cur : List (Int × Int)} {e : Int × Int} {r : List (Int × Int)} (h : compB n (cur ++ [e]) = true) : rnds n cur (e :: r) = rnds n [] r + 1 := by
  rw [rnds, if_pos h]
theorem rnds_no {n : Int} {cur : List (Int × Int)} {e : Int × Int} {r : List (Int × Int)} (h : compB n (cur ++ [e]) = false) : rnds n cur (e :: r) = rnds n (cur ++ [e]) r := by
  rw [rnds, if_neg (by simp [h])]
theorem rnds_short {n : Int} (hn : 1 ≤ n) : ∀ (r cur : List (Int × Int)), (cur.length + r.length : Int) ≤ n → rnds n cur r = 0
  | [], _, _ => rfl
  | e :: r, cur, h => by
    have hf : compB n (cur ++ [e]) = false := (compB_false _ _).2 (fun hc => by
      have := hc.len hn
      simp at this h
      omega)
    rw [rnds_no hf]
    exact rnds_short hn r (cur ++ [e]) (by simp at h ⊢; omega)

theorem rnds_ab (n : Int) : ∀ r : List (Int × Int), (∀ c d : List (Int × Int), (∀ e, e ∈ c → e ∈ d) → rnds n c r ≤ rnds n d r) ∧ (∀ c d : List (Int × Int), rnds n c r ≤ rnds n d r + 1)
  | [] => ⟨fun _ _ _ => Nat.le_refl _, fun _ _ => by simp [rnds]⟩
  | e :: r => by
    obtain ⟨hA, hB⟩ := rnds_ab n r
    constructor
    · intro c d hs
      have hs' : ∀ x, x ∈ c ++ [e] → x ∈ d ++ [e] := fun x hx => by
        simp only [List.mem_append] at hx ⊢
        exact hx.imp (hs x) id
      by_cases h1 : compB n (d ++ [e]) = true
      · rw [rnds_yes h1]
        by_cases h2 : compB n (c ++ [e]) = true
        · rw [rnds_yes h2]
          exact Nat.le_refl _
        · rw [rnds_no (by simpa using h2)]
          exact hB _ _
      · have h2 : compB n (c ++ [e]) = false := (compB_false _ _).2 (fun hc => h1 ((compB_iff _ _).2 (hc.mono hs')))
        rw [rnds_no h2, rnds_no (by simpa using h1)]
        exact hA _ _ hs'
    · intro c d
      by_cases h1 : compB n (c ++ [e]) = true
      · rw [rnds_yes h1]
        by_cases h2 : compB n (d ++ [e]) = true
        · rw [rnds_yes h2]
          omega
        · rw [rnds_no (by simpa using h2)]
          have := hA [] (d ++ [e]) (fun x hx => by cases hx)
          omega
      · rw [rnds_no (by simpa using h1)]
        by_cases h2 : compB n (d ++ [e]) = true
        · rw [rnds_yes h2]
          have := hB (c ++ [e]) []
          omega
        · rw [rnds_no (by simpa using h2)]
          exact hB _ _
theorem rnds_wide {n : Int} {c d r : List (Int × Int)} (h : ∀ e, e ∈ c → e ∈ d) : rnds n c r ≤ rnds n d r := (rnds_ab n r).1 c d h

theorem rnds_front {n : Int} (r : List (Int × Int)) : ∀ (s c : List (Int × Int)), rnds n [] r ≤ rnds n c (s ++ r)
  | [], c => rnds_wide (fun e he => by cases he)
  | e :: s, c => by
    rw [List.cons_append]
    by_cases h : compB n (c ++ [e]) = true
    · rw [rnds_yes h]
      have := rnds_front (n := n) r s []
      omega
    · rw [rnds_no (by simpa using h)]
      exact rnds_front r s _

theorem rnds_block {n : Int} (r : List (Int × Int)) : ∀ (b c : List (Int × Int)), compB n c = false → Comp n (c ++ b) → rnds n [] r + 1 ≤ rnds n c (b ++ r)
  | [], c, h, hc => by
    rw [List.append_nil] at hc
    exact absurd ((compB_iff _ _).2 hc) (by simp [h])
  | e :: b, c, h, hc => by
    rw [List.cons_append]
    by_cases h1 : compB n (c ++ [e]) = true
    · rw [rnds_yes h1]
      have := rnds_front (n := n) r b []
      omega
    · rw [rnds_no (by simpa using h1)]
      exact rnds_block r b (c ++ [e]) (by simpa using h1) (by simpa using hc)

/-- A complete list behind makes one round more at least. -/
theorem rnds_behind {n : Int} {b : List (Int × Int)} (hb : Comp n b) : ∀ (x c : List (Int × Int)), rnds n c x + 1 ≤ rnds n c (x ++ b)
  | [], c => by
    have h1 := rnds_block (n := n) [] b [] (compB_nil n) (by simpa using hb)
    have h2 : rnds n [] b ≤ rnds n c b := rnds_wide (fun e he => by cases he)
    simp [rnds] at h1 ⊢
    omega
  | e :: x, c => by
    rw [List.cons_append]
    by_cases h : compB n (c ++ [e]) = true
    · rw [rnds_yes h, rnds_yes h]
      have := rnds_behind hb x []
      omega
    · rw [rnds_no (by simpa using h), rnds_no (by simpa using h)]
      exact rnds_behind hb x _

/-- More entries never make fewer rounds. -/
theorem rnds_more {n : Int} (y : List (Int × Int)) : ∀ (x c : List (Int × Int)), rnds n c x ≤ rnds n c (x ++ y)
  | [], c => by simp [rnds]
  | e :: x, c => by
    rw [List.cons_append]
    by_cases h : compB n (c ++ [e]) = true
    · rw [rnds_yes h, rnds_yes h]
      have := rnds_more (n := n) y x []
      omega
    · rw [rnds_no (by simpa using h), rnds_no (by simpa using h)]
      exact rnds_more y x _

/-- Entries that pick nothing and don't tick don't matter. -/
theorem compB_inert {n : Int} {e : Int × Int} (h0 : e.1 ≠ 0) (h1 : e.1 ≠ 1) (hn : 1 ≤ n) (c s : List (Int × Int)) : compB n (c ++ [e] ++ s) = compB n (c ++ s) := by
  have hiff : Comp n (c ++ [e] ++ s) ↔ Comp n (c ++ s) := by
    rw [comp_code n hn, comp_code n hn]
    have hce : code n e = -1 := by rw [code_other n e h1, cls_other n e h0]
    constructor
    · intro h m hm hm'
      obtain ⟨x, hx, hc⟩ := h m hm hm'
      refine ⟨x, ?_, hc⟩
      simp only [List.mem_append, List.mem_singleton] at hx ⊢
      rcases hx with (hx | rfl) | hx
      · exact .inl hx
      · omega
      · exact .inr hx
    · intro h m hm hm'
      obtain ⟨x, hx, hc⟩ := h m hm hm'
      refine ⟨x, ?_, hc⟩
      simp only [List.mem_append, List.mem_singleton] at hx ⊢
      rcases hx with hx | hx
      · exact .inl (.inl hx)
      · exact .inr hx
  by_cases h : Comp n (c ++ s)
  · rw [(compB_iff _ _).2 h, (compB_iff _ _).2 (hiff.2 h)]
  · rw [(compB_false _ _).2 h, (compB_false _ _).2 (fun hc => h (hiff.1 hc))]
theorem rnds_congr {n : Int} : ∀ (y c d : List (Int × Int)), (∀ s, compB n (c ++ s) = compB n (d ++ s)) → rnds n c y = rnds n d y
  | [], _, _, _ => rfl
  | e :: y, c, d, h => by
    rw [rnds, rnds, h [e], rnds_congr y (c ++ [e]) (d ++ [e]) (fun s => by rw [List.append_assoc, List.append_assoc]; exact h _)]
theorem rnds_inert {n : Int} {e : Int × Int} (h0 : e.1 ≠ 0) (h1 : e.1 ≠ 1) (hn : 1 ≤ n) (y : List (Int × Int)) : ∀ (x c : List (Int × Int)), compB n c = false → rnds n c (x ++ e :: y) = rnds n c (x ++ y)
  | [], c, hc => by
    have := compB_inert h0 h1 hn c []
    simp only [List.append_nil] at this
    rw [List.nil_append, List.nil_append, rnds_no (by rw [this, hc])]
    exact rnds_congr y _ _ (fun s => compB_inert h0 h1 hn c s)
  | d :: x, c, hc => by
    rw [List.cons_append, List.cons_append]
    by_cases h : compB n (c ++ [d]) = true
    · rw [rnds_yes h, rnds_yes h, rnds_inert h0 h1 hn y x [] (compB_nil n)]
    · rw [rnds_no (by simpa using h), rnds_no (by simpa using h), rnds_inert h0 h1 hn y x _ (by simpa using h)]

/-- Every k consecutive entries are complete. -/
def Fairly (n : Int) (k : Nat) (l : List (Int × Int)) : Prop := ∀ j, j + k ≤ l.length → Comp n ((l.drop j).take k)
theorem Fairly.rounds {n : Int} {k : Nat} : ∀ (q : Nat) (l : List (Int × Int)), Fairly n k l → l.length = q * k → q ≤ rnds n [] l
  | 0, _, _, _ => Nat.zero_le _
  | q + 1, l, h, hl => by
    have hk : k ≤ l.length := by
      rw [hl, Nat.succ_mul]
      omega
    have h0 : Comp n (l.take k) := by simpa using h 0 (by omega)
    have ih := Fairly.rounds (n := n) (k := k) q (l.drop k) (fun j hj => by
      have := h (k + j) (by simp at hj; omega)
      rwa [List.drop_drop]) (by rw [List.length_drop, hl, Nat.succ_mul]; omega)
    have h1 := rnds_block (n := n) (l.drop k) (l.take k) [] (compB_nil n) (by simpa using h0)
    rw [List.take_append_drop] at h1
    omega

/-- A window holds the code c. -/
def Hit (n : Int) (k : Nat) (l : List (Int × Int)) (c : Int) (j : Nat) : Prop := ∃ q, j ≤ q ∧ q < j + k ∧ ∃ e, l[q]? = some e ∧ code n e = c
theorem fairly_hit {n : Int} (hn : 1 ≤ n) (k : Nat) (l : List (Int × Int)) : Fairly n k l ↔ ∀ j, j + k ≤ l.length → ∀ c : Int, 0 ≤ c → c ≤ n → Hit n k l c j := by
  unfold Fairly
  constructor
  · intro h j hj c h0 hc
    obtain ⟨e, he, hec⟩ := (comp_code n hn _).1 (h j hj) c h0 hc
    obtain ⟨i, hi⟩ := List.getElem?_of_mem he
    rw [List.getElem?_take] at hi
    split at hi
    · rw [List.getElem?_drop] at hi
      exact ⟨j + i, by omega, by omega, e, hi, hec⟩
    · cases hi
  · intro h j hj
    refine (comp_code n hn _).2 (fun c h0 hc => ?_)
    obtain ⟨q, hq, hq', e, he, hec⟩ := h j hj c h0 hc
    refine ⟨e, List.mem_of_getElem? (i := q - j) ?_, hec⟩
    rw [List.getElem?_take, if_pos (by omega), List.getElem?_drop, show j + (q - j) = q by omega]
    exact he

/-- What is known of code c behind i entries, v the place of its last one (-1 if there was none): all windows that begin up to v hold it. -/
structure Gap (n : Int) (k : Nat) (l : List (Int × Int)) (c : Int) (i : Nat) (v : Int) : Prop where
  low : -1 ≤ v
  high : v < i
  none : ∀ j : Nat, v < j → j < i → ∀ e, l[j]? = some e → code n e ≠ c
  hits : ∀ j : Nat, (j : Int) ≤ v → j + k ≤ l.length → Hit n k l c j
theorem Gap.start (n : Int) (k : Nat) (l : List (Int × Int)) (c : Int) : Gap n k l c 0 (-1) := ⟨by omega, by omega, fun j _ hj => by omega, fun j hj => by omega⟩
theorem Gap.other {n : Int} {k : Nat} {l : List (Int × Int)} {c : Int} {i : Nat} {v : Int} (h : Gap n k l c i v) {e : Int × Int} (he : l[i]? = some e) (hne : code n e ≠ c) : Gap n k l c (i + 1) v :=
  ⟨h.low, by have := h.high; omega, fun j hv hj e' he' => by
    by_cases hji : j = i
    · subst hji
      rw [he] at he'
      cases he'
      exact hne
    · exact h.none j hv (by omega) e' he', h.hits⟩
theorem Gap.same {n : Int} {k : Nat} {l : List (Int × Int)} {c : Int} {i : Nat} {v : Int} (h : Gap n k l c i v) {e : Int × Int} (he : l[i]? = some e) (heq : code n e = c) (hk : (i : Int) - v ≤ k) : Gap n k l c (i + 1) i :=
  ⟨by omega, by omega, fun j hv hj => by omega, fun j hj hjk => by
    by_cases hjv : (j : Int) ≤ v
    · exact h.hits j hjv hjk
    · exact ⟨i, by omega, by omega, e, he, heq⟩⟩
/-- Too wide a gap: a window without c. -/
theorem Gap.wide {n : Int} {k : Nat} {l : List (Int × Int)} {c : Int} {i : Nat} {v : Int} (h : Gap n k l c i v) (hi : i ≤ l.length) (hk : (k : Int) < i - v) (hn : 1 ≤ n) (h0 : 0 ≤ c) (hc : c ≤ n) : ¬ Fairly n k l := by
  intro hf
  have hl := h.low
  obtain ⟨q, hq, hq', e, he, hec⟩ := (fairly_hit hn k l).1 hf (v + 1).toNat (by omega) c h0 hc
  exact h.none q (by omega) (by omega) e he hec
theorem Gap.done {n : Int} {k : Nat} {l : List (Int × Int)} {c : Int} {v : Int} (h : Gap n k l c l.length v) (hk : (l.length : Int) - v ≤ k) : ∀ j, j + k ≤ l.length → Hit n k l c j :=
  fun j hj => h.hits j (by omega) hj

theorem fairly_short {n : Int} {k : Nat} {l : List (Int × Int)} (h : l.length < k) : Fairly n k l := fun j hj => by omega
theorem fairly_full {n : Int} {k : Nat} {l : List (Int × Int)} (hn : 1 ≤ n) (hk : (k : Int) ≤ n) (h : k ≤ l.length) : ¬ Fairly n k l := by
  intro hf
  have := (hf 0 (by omega)).len hn
  simp at this
  omega
end Go.Proofs.Ytpaacpcmijhcmaa
