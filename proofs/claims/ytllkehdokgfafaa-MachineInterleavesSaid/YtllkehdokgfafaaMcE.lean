/-
  Package machine: Interleave of counters.
-/
import Derived.Test.YtllkehdokgfafaaMcB
import Derived.Test.YtllkehdokgfafaaInts
import Derived.Test.YtllkehdokgfafaaDraw
namespace Go.Proofs.Ytllkehdokgfafaa
open Go Go.RowKit Go.Shelf
set_option linter.unusedSimpArgs false

/-- Block b holds the numbers C. -/
def NRow (w : World) (b : Nat) (C : List Nat) : Prop := Blk w b 3 (C.map fun x => Value.int .i64 ((x : Nat) : Int)).toArray
/-- Block b holds the Booleans D. -/
def BRow (w : World) (b : Nat) (D : List Bool) : Prop := Blk w b 4 (D.map Value.bool).toArray
/-- Block b holds the machines qs. -/
def XRow (w : World) (b : Nat) (qs : List Nat) : Prop := ∃ cur : Array Value, Blk w b 105 cur ∧ ∀ i, i < qs.length → cur[i]? = some (mval (qs.getD i 0))

theorem NRow.at_ {w : World} {b : Nat} {C : List Nat} (h : NRow w b C) {i : Nat} (hi : i < C.length) : w.cell? ⟨b, i, none⟩ = some (.int .i64 ((C.getD i 0 : Nat) : Int)) := by
  rw [Blk.at_ h]
  simp [hi]
theorem BRow.at_ {w : World} {b : Nat} {D : List Bool} (h : BRow w b D) {i : Nat} (hi : i < D.length) : w.cell? ⟨b, i, none⟩ = some (.bool (D.getD i false)) := by
  rw [Blk.at_ h]
  simp [hi]
theorem XRow.at_ {w : World} {b : Nat} {qs : List Nat} (h : XRow w b qs) {i : Nat} (hi : i < qs.length) : w.cell? ⟨b, i, none⟩ = some (mval (qs.getD i 0)) := by
  obtain ⟨cur, hb, hc⟩ := h
  rw [hb.at_]
  exact hc i hi
theorem NRow.put {w : World} {b : Nat} {C : List Nat} (h : NRow w b C) (i x : Nat) : NRow (w.setCell ⟨b, i, none⟩ (.int .i64 (x : Int))) b (C.set i x) := by
  have := Blk.put h i (.int .i64 (x : Int))
  unfold NRow
  rw [List.map_set]
  simpa using this
theorem BRow.put {w : World} {b : Nat} {D : List Bool} (h : BRow w b D) (i : Nat) (x : Bool) : BRow (w.setCell ⟨b, i, none⟩ (.bool x)) b (D.set i x) := by
  have := Blk.put h i (.bool x)
  unfold BRow
  rw [List.map_set]
  simpa using this
theorem NRow.fr {S : List Nat} {w w' : World} {b : Nat} {C : List Nat} (h : NRow w b C) (f : Fr S w w') (hb : b ∉ S) : NRow w' b C := Blk.of_same h (f.block b (Blk.lt h) hb)
theorem BRow.fr {S : List Nat} {w w' : World} {b : Nat} {D : List Bool} (h : BRow w b D) (f : Fr S w w') (hb : b ∉ S) : BRow w' b D := Blk.of_same h (f.block b (Blk.lt h) hb)
theorem XRow.fr {S : List Nat} {w w' : World} {b : Nat} {qs : List Nat} (h : XRow w b qs) (f : Fr S w w') (hb : b ∉ S) : XRow w' b qs := by
  obtain ⟨cur, hc, hr⟩ := h
  exact ⟨cur, hc.of_same (f.block b hc.lt hb), hr⟩
theorem NRow.ints {w : World} {b : Nat} {C : List Nat} (h : NRow w b C) (hm : C.length ≤ 1000000) : InInts w (some ⟨b, 0, none⟩) C.length (C.map fun x => ((x : Nat) : Int)) := by
  refine ⟨by simp, by unfold maxLen; omega, fun i hi => ⟨_, rfl, Blk.lt h, ?_⟩⟩
  have e : (⟨b, 0, none⟩ : Addr).add i = ⟨b, i, none⟩ := by unfold Addr.add; split <;> simp_all
  rw [e, h.at_ hi]
  simp [hi]

theorem info_int : (Try.prog.info? 3).map (fun i => (i.zero, i.size, i.bytes)) = some (some (.int .i64 0), 1, 8) := by kernel_rfl
theorem info_bool : (Try.prog.info? 4).map (fun i => (i.zero, i.size, i.bytes)) = some (some (.bool false), 1, 1) := by kernel_rfl

theorem made_nrow (w : World) (n : Nat) : NRow (w.alloc (.cells (madeCells #[.int .i64 0] n) 3)) w.heap.size (List.replicate n 0) := by
  have h := Blk.made w 3 (madeCells #[.int .i64 0] n)
  unfold NRow
  have e : ((List.replicate n 0).map fun x => Value.int .i64 ((x : Nat) : Int)).toArray = madeCells #[.int .i64 0] n := by
    apply Array.ext
    · simp [madeCells]
    · intro i h1 h2
      simp [madeCells, Nat.mod_one]
  rw [e]
  exact h
theorem made_brow (w : World) (n : Nat) : BRow (w.alloc (.cells (madeCells #[.bool false] n) 4)) w.heap.size (List.replicate n false) := by
  have h := Blk.made w 4 (madeCells #[.bool false] n)
  unfold BRow
  have e : ((List.replicate n false).map Value.bool).toArray = madeCells #[.bool false] n := by
    apply Array.ext
    · simp [madeCells]
    · intro i h1 h2
      simp [madeCells, Nat.mod_one]
  rw [e]
  exact h

/-- Counters in an environment: machine i adds 1 to cell i; it has lens[i] steps, of C[i] were asked. -/
structure MS (w : World) (p m k g n : Nat) (st : St) (qs lens C : List Nat) : Prop where
  e : PE w p m k g n st 0 0 hd0 (.slice none 0 0) (.slice none 0 0)
  x : st.X.length = n
  q : qs.length = n
  l : lens.length = n
  c : C.length = n
  o : ∀ i, i < n → st.old i = ((min (C.getD i 0) (lens.getD i 0) : Nat) : Int)
  t : ∀ i, i < n → Cnt w (qs.getD i 0) i ((lens.getD i 0 - min (C.getD i 0) (lens.getD i 0) : Nat) : Int)
  s : ∀ i, lens.getD i 0 ≤ 8

theorem MS.ne {w : World} {p m k g n : Nat} {st : St} {qs lens C : List Nat} (h : MS w p m k g n st qs lens C) {i j : Nat} (hi : i < n) (hj : j < n) (hij : i ≠ j) : qs.getD i 0 ≠ qs.getD j 0 := by
  intro e
  have h1 := h.t i hi
  have h2 := h.t j hj
  rw [e] at h1
  unfold Cnt Blk at h1 h2
  rw [h1] at h2
  simp at h2
  omega
theorem MS.qp {w : World} {p m k g n : Nat} {st : St} {qs lens C : List Nat} (h : MS w p m k g n st qs lens C) {i : Nat} (hi : i < n) : qs.getD i 0 ≠ p ∧ qs.getD i 0 ≠ m ∧ qs.getD i 0 ≠ k ∧ qs.getD i 0 ≠ g := by
  have ht := h.t i hi
  obtain ⟨cur, hb, _⟩ := h.e.mem.row.blk
  exact ⟨Blk.apart ht h.e.blk (by decide), Blk.apart ht h.e.mem.blk (by decide), Blk.apart ht h.e.clk (by decide), Blk.apart ht hb (by decide)⟩
/-- Which blocks belong to them. -/
def MS.S (m g : Nat) (qs : List Nat) : List Nat := m :: g :: qs
theorem getD_mem {qs : List Nat} {i : Nat} (h : i < qs.length) : qs.getD i 0 ∈ qs := by
  rw [List.getD_eq_getElem?_getD, List.getElem?_eq_getElem h]
  exact List.getElem_mem h
theorem MS.fr {S : List Nat} {w w' : World} {p m k g n : Nat} {st : St} {qs lens C : List Nat} (h : MS w p m k g n st qs lens C) (f : Fr S w w') (h1 : p ∉ S) (h2 : m ∉ S) (h3 : k ∉ S) (h4 : g ∉ S) (h5 : ∀ x ∈ qs, x ∉ S) : MS w' p m k g n st qs lens C :=
  ⟨h.e.fr f h1 h2 h3 h4, h.x, h.q, h.l, h.c, h.o, fun i hi => (h.t i hi).fr f (h5 _ (getD_mem (by rw [h.q]; exact hi))), h.s⟩
theorem MS.below {w w' : World} {p m k g n : Nat} {st : St} {qs lens C : List Nat} (h : MS w p m k g n st qs lens C) (f : Below w.heap.size w w') : MS w' p m k g n st qs lens C :=
  h.fr (Fr.old (S := []) f) (by simp) (by simp) (by simp) (by simp) (by simp)
theorem set_at (C : List Nat) (j x : Nat) (hj : j < C.length) : (C.set j x).getD j 0 = x := by simp [hj]
theorem set_ne (C : List Nat) (j i x : Nat) (hij : j ≠ i) : (C.set j x).getD i 0 = C.getD i 0 := by simp [hij]

/-- A step of machine j. -/
def StepM (w : World) (p m k g n : Nat) (qs lens C : List Nat) (j : Nat) (e : Ending) (w' : World) : Prop :=
  e = .returned (.bool (decide (max 1 (lens.getD j 0) ≤ C.getD j 0 + 1))) ∧ (∃ st', MS w' p m k g n st' qs lens (C.set j (C.getD j 0 + 1))) ∧ Fr (MS.S m g qs) w w'

theorem stepM_any {w : World} {p m k g n : Nat} {st : St} {qs lens C : List Nat} (h : MS w p m k g n st qs lens C) {j : Nat} (hj : j < n) (hlt : C.getD j 0 < max 1 (lens.getD j 0)) :
    Calls Try.prog 89 #[.pointer (some ⟨qs.getD j 0, 0, none⟩), .pointer (some ⟨p, 0, none⟩)] w (StepM w p m k g n qs lens C j) := by
  have ht := h.t j hj
  have hs := h.s j
  have hc := h.c
  obtain ⟨a, ha⟩ : ∃ a, C.getD j 0 = a := ⟨_, rfl⟩
  obtain ⟨b, hb⟩ : ∃ b, lens.getD j 0 = b := ⟨_, rfl⟩
  unfold StepM
  rw [ha, hb] at ht hlt ⊢
  rw [hb] at hs
  by_cases h0 : b = 0
  · subst h0
    obtain rfl : a = 0 := by omega
    simp only [Nat.min_zero, Nat.sub_zero] at ht
    refine (step_zero ht _).mono ?_
    rintro e w' ⟨rfl, rfl⟩
    refine ⟨by simp, ⟨st, h.e, h.x, h.q, h.l, by simpa using hc, fun i hi => ?_, fun i hi => ?_, h.s⟩, Fr.refl _ _⟩
    · by_cases hij : j = i
      · subst hij
        rw [h.o j hi, set_at C j _ (by omega), ha, hb]
        simp
      · rw [set_ne C j i _ hij, h.o i hi]
    · by_cases hij : j = i
      · subst hij
        rw [set_at C j _ (by omega), hb]
        simpa using ht
      · rw [set_ne C j i _ hij]
        exact h.t i hi
  · rw [show b - min a b = b - a - 1 + 1 by omega] at ht
    refine (step_more h.e (l := b - a - 1) (by omega) ht).mono ?_
    rintro e w' ⟨rfl, he, hq, hf⟩
    have hf' : Fr (MS.S m g qs) w w' := hf.mono (by
      intro x hx
      simp only [List.mem_cons, List.not_mem_nil, or_false] at hx
      unfold MS.S
      rcases hx with rfl | rfl | rfl
      · simp
      · simp
      · exact List.mem_cons_of_mem _ (List.mem_cons_of_mem _ (getD_mem (by rw [h.q]; exact hj))))
    refine ⟨?_, ⟨_, he, (go_len _ _ _ _).trans h.x, h.q, h.l, by simpa using hc, fun i hi => ?_, fun i hi => ?_, h.s⟩, hf'⟩
    · rw [show decide (max 1 b ≤ a + 1) = decide (b - a - 1 = 0) by rw [Bool.eq_iff_iff]; simp; omega]
    · by_cases hij : j = i
      · subst hij
        have hh : st.has j := ⟨by omega, by rw [h.x]; omega⟩
        rw [go_old _ _ _ _ hh, h.o j hj, set_at C j _ (by omega), ha, hb]
        exact (IntWalk.u64_in _ (by omega)).trans (by omega)
      · rw [go_other _ _ _ _ _ (by omega), set_ne C j i _ hij, h.o i hi]
    · by_cases hij : j = i
      · subst hij
        rw [set_at C j _ (by omega), hb, show b - min (a + 1) b = b - a - 1 by omega]
        exact hq
      · rw [set_ne C j i _ hij]
        have := h.qp hi
        exact (h.t i hi).fr hf (by
          simp only [List.mem_cons, List.not_mem_nil, or_false, not_or]
          exact ⟨this.2.1, this.2.2.2, fun e => h.ne hj hi hij e.symm⟩)

/-- One pick: machine j makes a step unless it is done. -/
def nextC (lens C : List Nat) (j : Nat) : List Nat := if C.getD j 0 < max 1 (lens.getD j 0) then C.set j (C.getD j 0 + 1) else C
/-- What is done. -/
def doneC (lens C : List Nat) : List Bool := List.zipWith (fun l c => decide (max 1 l ≤ c)) lens C
theorem nextC_length (lens C : List Nat) (j : Nat) : (nextC lens C j).length = C.length := by
  unfold nextC
  split <;> simp
theorem doneC_at (lens C : List Nat) (j : Nat) (h : j < C.length) (h' : lens.length = C.length) : (doneC lens C).getD j false = decide (max 1 (lens.getD j 0) ≤ C.getD j 0) := by
  unfold doneC
  rw [List.getD_eq_getElem?_getD, List.getElem?_zipWith, List.getElem?_eq_getElem h, List.getElem?_eq_getElem (h'.symm ▸ h)]
  simp [h, h'.symm ▸ h]
theorem doneC_length (lens C : List Nat) (h' : lens.length = C.length) : (doneC lens C).length = C.length := by simp [doneC, h']
theorem doneC_set (lens C : List Nat) (j x : Nat) (h' : lens.length = C.length) : doneC lens (C.set j x) = (doneC lens C).set j (decide (max 1 (lens.getD j 0) ≤ x)) := by
  apply List.ext_getElem?
  intro i
  unfold doneC
  rw [List.getElem?_set, List.getElem?_zipWith, List.getElem?_set, List.getElem?_zipWith]
  simp only [List.length_zipWith]
  by_cases hij : j = i
  · subst hij
    by_cases hj : j < C.length
    · rw [List.getElem?_eq_getElem (h'.symm ▸ hj : j < lens.length)]
      simp [hj, h']
    · simp [hj, h']
  · simp [hij]
/-- What is left to ask. -/
def leftC (lens C : List Nat) : List Nat := List.zipWith (fun l c => max 1 l - c) lens C
theorem leftC_at (lens C : List Nat) (j : Nat) (h : j < C.length) (h' : lens.length = C.length) : (leftC lens C).getD j 0 = max 1 (lens.getD j 0) - C.getD j 0 := by
  unfold leftC
  rw [List.getD_eq_getElem?_getD, List.getElem?_zipWith, List.getElem?_eq_getElem h, List.getElem?_eq_getElem (h'.symm ▸ h)]
  simp [h, h'.symm ▸ h]
theorem leftC_length (lens C : List Nat) (h' : lens.length = C.length) : (leftC lens C).length = C.length := by simp [leftC, h']
theorem leftC_set (lens C : List Nat) (j x : Nat) (h' : lens.length = C.length) : leftC lens (C.set j x) = (leftC lens C).set j (max 1 (lens.getD j 0) - x) := by
  apply List.ext_getElem?
  intro i
  unfold leftC
  rw [List.getElem?_set, List.getElem?_zipWith, List.getElem?_set, List.getElem?_zipWith]
  simp only [List.length_zipWith]
  by_cases hij : j = i
  · subst hij
    by_cases hj : j < C.length
    · rw [List.getElem?_eq_getElem (h'.symm ▸ hj : j < lens.length)]
      simp [hj, h']
    · simp [hj, h']
  · simp [hij]
theorem leftC_zero (lens : List Nat) (n : Nat) (h : lens.length = n) : leftC lens (List.replicate n 0) = lens.map (max 1) := by
  apply List.ext_getElem
  · simp [leftC, h]
  · intro i h1 h2
    simp [leftC]
/-- Which machine a pick means. -/
def pickN (n : Nat) (z : Int) : Nat := (drw z n).toNat
/-- The calls behind a list of picks. -/
def picksC (n : Nat) (lens : List Nat) (zs : List Int) : List Nat := zs.foldl (fun C z => nextC lens C (pickN n z)) (List.replicate n 0)
theorem picksC_take (n : Nat) (lens : List Nat) (zs : List Int) (j : Nat) (h : j < zs.length) : picksC n lens (zs.take (j + 1)) = nextC lens (picksC n lens (zs.take j)) (pickN n (zs.getD j 0)) := by
  unfold picksC
  rw [List.take_add_one, List.foldl_append, List.getD_eq_getElem?_getD, List.getElem?_eq_getElem h]
  rfl
theorem foldl_length (n : Nat) (lens : List Nat) : ∀ (zs : List Int) (C : List Nat), (zs.foldl (fun C z => nextC lens C (pickN n z)) C).length = C.length
  | [], _ => rfl
  | z :: zs, C => by
    rw [List.foldl_cons, foldl_length n lens zs, nextC_length]
theorem picksC_length (n : Nat) (lens : List Nat) (zs : List Int) : (picksC n lens zs).length = n := by
  unfold picksC
  rw [foldl_length, List.length_replicate]

theorem nextC_le (lens C : List Nat) (j i : Nat) (hl : ∀ i, lens.getD i 0 ≤ 8) (h : C.getD i 0 ≤ 8) : (nextC lens C j).getD i 0 ≤ 8 := by
  unfold nextC
  split
  · rename_i hlt
    by_cases hij : j = i
    · subst hij
      by_cases hj : j < C.length
      · rw [set_at C j _ hj]
        have := hl j
        omega
      · rw [List.set_eq_of_length_le (by omega)]
        exact h
    · rw [set_ne C j i _ hij]
      exact h
  · exact h
theorem foldl_le (n : Nat) (lens : List Nat) (hl : ∀ i, lens.getD i 0 ≤ 8) (i : Nat) : ∀ (zs : List Int) (C : List Nat), C.getD i 0 ≤ 8 → (zs.foldl (fun C z => nextC lens C (pickN n z)) C).getD i 0 ≤ 8
  | [], _, h => h
  | z :: zs, C, h => by
    rw [List.foldl_cons]
    exact foldl_le n lens hl i zs _ (nextC_le lens C _ i hl h)
theorem picksC_le (n : Nat) (lens : List Nat) (hl : ∀ i, lens.getD i 0 ≤ 8) (zs : List Int) (i : Nat) : (picksC n lens zs).getD i 0 ≤ 8 := by
  refine foldl_le n lens hl i zs _ ?_
  rw [List.getD_eq_getElem?_getD, List.getElem?_replicate]
  split <;> simp

theorem modulo_any (d : Int) (n : Int) (hn : 1 ≤ n) (hn' : n ≤ 9223372036854775807) (w : World) :
    Calls Try.prog 46 #[.int .i64 d, .int .i64 n] w fun e w' => e = .returned (.int .i64 (drw d n)) ∧ w = w' := by
  have h : ¬ n < 1 := by omega
  have hr := tmod_in d n h
  have hz : (n == 0) = false := by simp; omega
  by_cases h' : d.tmod n < 0
  · rw [drw_neg d n h h']
    generalize hg : d.tmod n = r at *
    go_enter Try.func46, Try.ntmps46
    go_wp2
    go_ret
    exact ⟨rfl, rfl⟩
  · rw [drw_pos d n h h']
    generalize hg : d.tmod n = r at *
    have h'' : 0 ≤ r := by omega
    go_enter Try.func46, Try.ntmps46
    go_wp2
    go_ret
    exact ⟨rfl, rfl⟩

/-- What Interleave gives, behind the calls C: a row of its own with them. -/
def Inter (w : World) (p m k g n : Nat) (qs lens C : List Nat) (e : Ending) (w' : World) : Prop :=
  ∃ b st, e = .returned (.slice (some ⟨b, 0, none⟩) n n) ∧ w.heap.size ≤ b ∧ NRow w' b C ∧ MS w' p m k g n st qs lens C ∧ Fr (MS.S m g qs) w w'

/-- What its loop keeps. -/
def InterR (w : World) (p m k g n : Nat) (qs lens : List Nat) (zs : List Int) (bx bc bd : Nat) (i : Value) (wr : World) : Prop :=
  ∃ (j : Nat) (st : St), j ≤ zs.length ∧ i = .int .i64 j ∧ NRow wr bc (picksC n lens (zs.take j)) ∧ BRow wr bd (doneC lens (picksC n lens (zs.take j))) ∧ MS wr p m k g n st qs lens (picksC n lens (zs.take j)) ∧ XRow wr bx qs ∧
    Fr (MS.S m g qs) w wr

theorem doneC_zero (n : Nat) (lens : List Nat) (h : lens.length = n) : doneC lens (List.replicate n 0) = List.replicate n false := by
  apply List.ext_getElem
  · simp [doneC, h]
  · intro i h1 h2
    simp [doneC]

theorem InInts.fr {S : List Nat} {w w' : World} {a : Option Addr} {n : Nat} {zs : List Int} (h : InInts w a n zs) (f : Fr S w w') (hS : ∀ x ∈ S, ∀ y : Addr, a = some y → 0 < n → y.block ≠ x) : InInts w' a n zs :=
  ⟨h.1, h.2.1, fun i hi => by
    obtain ⟨x, e, hx, hc⟩ := h.2.2 i hi
    refine ⟨x, e, Nat.lt_of_lt_of_le hx f.size, ?_⟩
    have hb : (x.add i).block = x.block := by unfold Addr.add; split <;> rfl
    rw [World.cell?_of_block (w' := w') (w := w) (by rw [hb]; exact f.block x.block hx (fun hm => hS _ hm x e (by omega) rfl))]
    exact hc⟩

set_option maxRecDepth 100000 in
set_option maxHeartbeats 4000000 in
theorem inter_any {w : World} {p m k g n : Nat} {st : St} {qs lens : List Nat} (h : MS w p m k g n st qs lens (List.replicate n 0)) (hn : 1 ≤ n) (hn' : n ≤ 1000) {bx cx : Nat} (hx : XRow w bx qs) {a : Option Addr} {L : Nat} {zs : List Int} (hz : InInts w a L zs) (hzq : ∀ x ∈ MS.S m g qs, ∀ y : Addr, a = some y → 0 < L → y.block ≠ x) (cL : Nat) :
    Calls Try.prog 22 #[.pointer (some ⟨p, 0, none⟩), .slice (some ⟨bx, 0, none⟩) n cx, .slice a L cL] w (Inter w p m k g n qs lens (picksC n lens zs)) := by
  have hmk := fun (W : World) => run_make_row' (P := Try.prog) 51 3 (.int .i64 0) 8 Try.underlying51 info_int rfl .i64 .i64 n (by omega) (by omega) W
  have hmb := fun (W : World) => run_make_row' (P := Try.prog) 108 4 (.bool false) 1 Try.underlying108 info_bool rfl .i64 .i64 n (by omega) (by omega) W
  have hnz : ((n : Int) == 0) = false := by simp; omega
  have H := Lib.hid h
  have HX := Lib.hid hx
  have HZ := Lib.hid hz
  have HQ := Lib.hid hzq
  clear h hx hz hzq
  go_enter Try.func22, Try.ntmps22
  go_wp2_with fail
  have hal : ∀ o o' : Obj, Below w.heap.size w ((w.alloc o).alloc o') := fun o o' => ((Below.refl _ _).alloc (Nat.le_refl _) _).alloc (by simp) _
  have hC := (made_nrow w n).fr (w' := (w.alloc (.cells (madeCells #[.int .i64 0] n) 3)).alloc (.cells (madeCells #[.bool false] n) 4)) (S := []) ((Fr.refl _ _).alloc _) (by simp)
  have hD := made_brow (w.alloc (.cells (madeCells #[.int .i64 0] n) 3)) n
  rw [show (w.alloc (.cells (madeCells #[.int .i64 0] n) 3)).heap.size = w.heap.size + 1 by simp] at hD
  have hB0 := hal (.cells (madeCells #[.int .i64 0] n) 3) (.cells (madeCells #[.bool false] n) 4)
  have hM := H.out.below hB0
  have hX := HX.out.fr (Fr.old (S := []) hB0) (by simp)
  have hF : Fr (MS.S m g qs) w ((w.alloc (.cells (madeCells #[.int .i64 0] n) 3)).alloc (.cells (madeCells #[.bool false] n) 4)) := Fr.old hB0
  have hsm : ∀ x ∈ MS.S m g qs, x < w.heap.size := by
    intro x hx
    unfold MS.S at hx
    simp only [List.mem_cons] at hx
    rcases hx with rfl | rfl | hx
    · exact H.out.e.mem.blk.lt
    · exact H.out.e.mem.row.lt
    · obtain ⟨i, hi, rfl⟩ := List.getElem_of_mem hx
      have := (H.out.t i (by rw [← H.out.q]; exact hi))
      have hg : qs.getD i 0 = qs[i] := by simp [hi]
      rw [hg] at this
      exact Blk.lt this
  have hbx : bx < w.heap.size ∧ bx ∉ MS.S m g qs := by
    obtain ⟨cur, hb, _⟩ := HX.out
    refine ⟨hb.lt, fun hx => ?_⟩
    unfold MS.S at hx
    simp only [List.mem_cons] at hx
    rcases hx with rfl | rfl | hx
    · exact hb.apart H.out.e.mem.blk (by decide) rfl
    · obtain ⟨cur', hb', _⟩ := H.out.e.mem.row.blk
      exact hb.apart hb' (by decide) rfl
    · obtain ⟨i, hi, rfl⟩ := List.getElem_of_mem hx
      have := (H.out.t i (by rw [← H.out.q]; exact hi))
      have hg : qs.getD i 0 = qs[i] := by simp [hi]
      rw [hg] at this
      exact hb.apart this (by decide) rfl
  have hpl := H.out.e.blk.lt
  have hkl := Blk.lt H.out.e.clk
  have HS := Lib.hid (And.intro hsm (And.intro hbx (And.intro hpl hkl)))
  clear hsm hbx hpl hkl hB0 hal
  generalize hbc : w.heap.size = bc at *
  have HBC := Lib.hid hbc
  clear hbc
  have HLEN := Lib.hid HZ.out.1
  have hL : L ≤ 9223372036854775807 := by have := HZ.out.2.1; unfold maxLen at this; omega
  clear hmk hmb hnz
  go_loopw [24] (fun i wr => InterR w p m k g n qs lens zs bx bc (bc + 1) i wr) (fun i _ => L - (intOf i).toNat)
  case atStart => exact ⟨0, st, by omega, rfl, by simpa [picksC] using hC, by simpa [picksC, doneC_zero n lens H.out.l] using hD, by simpa [picksC] using hM, hX, hF⟩
  case round =>
    obtain ⟨j, s', hj, rfl, hc, hd, hm, hx, hf⟩ := hrel
    clear hC hD hM hX hF
    by_cases hlt : j < L
    · have hlz : j < zs.length := by rw [HLEN.out]; exact hlt
      obtain ⟨x, rfl, _, hcz⟩ := (HZ.out.fr hf HQ.out).2.2 j hlt
      have hnext := picksC_take n lens zs j hlz
      obtain ⟨z, hz⟩ : ∃ z, zs.getD j 0 = z := ⟨_, rfl⟩
      rw [hz] at hnext hcz
      obtain ⟨y, hy⟩ : ∃ y, pickN n z = y := ⟨_, rfl⟩
      have hdr := drw_in z n (by omega)
      have hyn : y < n := by unfold pickN at hy; omega
      have hyd : drw z n = (y : Int) := by unfold pickN at hy; omega
      rw [hy] at hnext
      obtain ⟨C, hC⟩ : ∃ C, picksC n lens (zs.take j) = C := ⟨_, rfl⟩
      have hCl : C.length = n := by rw [← hC]; exact picksC_length _ _ _
      rw [hC] at hnext hc hd hm
      have hmod := modulo_any z n (by omega) (by omega) wr
      rw [hyd] at hmod
      have HMOD := Lib.hid hmod
      have cd := hd.at_ (i := y) (by rw [doneC_length _ _ (by rw [H.out.l, hCl])]; omega)
      rw [doneC_at lens C y (by omega) (by rw [H.out.l, hCl])] at cd
      have cc := hc.at_ (i := y) (by omega)
      have cx' := hx.at_ (i := y) (by rw [H.out.q]; exact hyn)
      have fd := Blk.free hd y
      have fc := Blk.free hc y
      have HN := Lib.hid hnext
      have HCL := Lib.hid hCl
      have HYD := Lib.hid hyd
      clear hnext hCl hz hy hdr hyd hC hmod
      by_cases hdn : max 1 (lens.getD y 0) ≤ C.getD y 0
      · rw [decide_eq_true hdn] at cd
        have HCC := Lib.hid hc
        clear cc cx' fd fc
        go_wp2_with fail
        (with_reducible refine HMOD.out.mono ?_)
        rintro e w' ⟨rfl, rfl⟩
        go_wp2_with fail
        go_roundw
        case rel =>
          have hn2 := HN.out
          unfold nextC at hn2
          rw [if_neg (by omega)] at hn2
          exact ⟨j + 1, s', by omega, by go_num, by rw [hn2]; exact hc, by rw [hn2]; exact hd, by rw [hn2]; exact hm, hx, hf⟩
        case measure => simp [intOf]; omega
      · rw [decide_eq_false hdn] at cd
        have hst := Lib.hid (stepM_any hm hyn (by omega))
        generalize hQ : qs.getD y 0 = q at *
        have km := meth_step ⟨q, 0, none⟩
        have ka := ahead_step ⟨q, 0, none⟩
        go_wp2_with fail
        (with_reducible refine HMOD.out.mono ?_)
        rintro e w' ⟨rfl, rfl⟩
        go_wp2_with fail
        (with_reducible refine hst.out.mono ?_)
        rintro e w1 ⟨rfl, ⟨st', hm1⟩, hf1⟩
        obtain ⟨hsm, ⟨hbx, hbn⟩, hpl, hkl⟩ := HS.out
        have hcS : bc ∉ MS.S m g qs := fun e => by have := hsm _ e; omega
        have hdS : bc + 1 ∉ MS.S m g qs := fun e => by have := hsm _ e; omega
        have hc1 := hc.fr hf1 hcS
        have hd1 := hd.fr hf1 hdS
        have hx1 := hx.fr hf1 hbn
        have cc1 := hc1.at_ (i := y) (by have := HCL.out; omega)
        have fd1 := Blk.free hd1 y
        have fc1 := Blk.free hc1 y
        have cd1 := hd1.at_ (i := y) (by rw [doneC_length _ _ (by rw [H.out.l, HCL.out])]; have := HCL.out; omega)
        have hs8 := H.out.s y
        have hcy : C.getD y 0 ≤ 8 := by omega
        have HN2 : nextC lens C y = C.set y (C.getD y 0 + 1) := by unfold nextC; rw [if_pos (by omega)]
        have HN3 := Lib.hid (HN.out.trans HN2)
        have hD2 := doneC_set lens C y (C.getD y 0 + 1) (by rw [H.out.l, HCL.out])
        have hc2 := (hc1.fr (w' := w1.setCell ⟨bc + 1, y, none⟩ (.bool (decide (max 1 (lens.getD y 0) ≤ C.getD y 0 + 1)))) (S := [bc + 1]) ((Fr.refl _ _).setCell (by simp) _) (by simp)).put y (C.getD y 0 + 1)
        have hd2 := (hd1.put y (decide (max 1 (lens.getD y 0) ≤ C.getD y 0 + 1))).fr (S := [bc]) ((Fr.refl _ _).setCell (p := ⟨bc, y, none⟩) (by simp) (.int .i64 ((C.getD y 0 + 1 : Nat) : Int))) (by simp)
        rw [← hD2] at hd2
        have hfs : Fr [bc + 1, bc] w1 ((w1.setCell ⟨bc + 1, y, none⟩ (.bool (decide (max 1 (lens.getD y 0) ≤ C.getD y 0 + 1)))).setCell ⟨bc, y, none⟩ (.int .i64 ((C.getD y 0 + 1 : Nat) : Int))) := ((Fr.refl _ _).setCell (by simp) _).setCell (by simp) _
        have hx2 := hx1.fr hfs (by simp; omega)
        have hm2 := hm1.fr hfs (by simp; omega) (by simp; have := hsm m (by simp [MS.S]); omega) (by simp; omega) (by simp; have := hsm g (by simp [MS.S]); omega) (fun z hz => by simp; have := hsm z (by unfold MS.S; exact List.mem_cons_of_mem _ (List.mem_cons_of_mem _ hz)); omega)
        have hf2 : Fr (MS.S m g qs) w _ := (hf.trans hf1).drop hfs (fun z hz => by
          simp only [List.mem_cons, List.not_mem_nil, or_false] at hz
          have := HBC.out
          rcases hz with rfl | rfl <;> right <;> omega)
        have HALL := Lib.hid (And.intro hc2 (And.intro hd2 (And.intro hx2 (And.intro hm2 hf2))))
        have hwr : wrap64 ((C.getD y 0 : Int) + 1) = ((C.getD y 0 + 1 : Nat) : Int) := by unfold wrap64; omega
        have HY := Lib.hid (And.intro hdn hcy)
        clear hc2 hd2 hx2 hm2 hf2 hfs hD2 hc1 hd1 hx1 hm1 hf1 hc hd hm hx hf hbx hbn hsm hpl hkl hcS hdS HN2 hst cc cd cx' fd fc hdn hs8 hcy hcz km ka
        generalize C.getD y 0 = Y at *
        generalize decide (max 1 (lens.getD y 0) ≤ Y + 1) = bb at *
        have cc2 : (w1.setCell ⟨bc + 1, y, none⟩ (.bool bb)).cell? ⟨bc, y, none⟩ = some (.int .i64 (Y : Int)) := by
          rw [World.cell?_of_block (Below.heap_setCell w1 ⟨bc + 1, y, none⟩ (.bool bb) bc (by simp))]
          exact cc1
        go_wp2_with fail
        go_roundw
        case rel =>
          obtain ⟨h1, h2, h3, h4, h5⟩ := HALL.out
          exact ⟨j + 1, st', by omega, by go_num, by rw [HN3.out]; exact h1, by rw [HN3.out]; exact h2, by rw [HN3.out]; exact h4, h3, h5⟩
        case measure => simp [intOf]; omega
    · obtain rfl : j = L := by rw [HLEN.out] at hj; omega
      have HF := Lib.hid hf
      have HM := Lib.hid hm
      have HC := Lib.hid hc
      clear hc hd hm hx hf
      go_wp2_with fail
      go_ret
      have hlt2 : zs.take j = zs := List.take_of_length_le (by rw [HLEN.out]; exact Nat.le_refl _)
      have h1 := HC.out
      have h2 := HM.out
      rw [hlt2] at h1 h2
      exact ⟨bc, s', rfl, by have := HBC.out; omega, h1, h2, HF.out⟩

/-- Without machines. -/
theorem inter_zero (w : World) (v : Value) (ax : Option Addr) (cx : Nat) (v' : Value) :
    Calls Try.prog 22 #[v, .slice ax 0 cx, v'] w fun e w' => e = .returned (.slice (some ⟨w.heap.size, 0, none⟩) 0 0) ∧ Below w.heap.size w w' := by
  have hmk := fun (W : World) => run_make_row' (P := Try.prog) 51 3 (.int .i64 0) 8 Try.underlying51 info_int rfl .i64 .i64 0 (by omega) (by omega) W
  rw [show ((0 : Nat) : Int) = 0 from rfl] at hmk
  go_enter Try.func22, Try.ntmps22
  go_wp2
  go_ret
  exact ⟨rfl, (Below.refl _ _).alloc (Nat.le_refl _) _⟩
end Go.Proofs.Ytllkehdokgfafaa
