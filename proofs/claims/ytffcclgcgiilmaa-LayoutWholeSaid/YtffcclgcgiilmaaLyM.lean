/-
  Plain mathematics: the list of all cells of a layout has each number from 0 to Cells - 1 once.
-/
import Derived.Test.YtffcclgcgiilmaaLay
namespace Go.Proofs.Ytffcclgcgiilmaa
open Go Go.RowKit

def rng (a : Int) (n : Nat) : List Int := (List.range n).map (fun i : Nat => a + (i : Int))
theorem rng_succ (a : Int) (n : Nat) : rng a (n + 1) = rng a n ++ [a + n] := by
  unfold rng
  rw [List.range_succ, List.map_append]
  rfl
theorem rng_length (a : Int) (n : Nat) : (rng a n).length = n := by simp [rng]
theorem flat_succ {α : Type} (f : Nat → List α) (n : Nat) : (List.range (n + 1)).flatMap f = (List.range n).flatMap f ++ f n := by
  rw [List.range_succ, List.flatMap_append]
  simp
theorem flat_length {α : Type} (f : Nat → List α) (m : Nat) (h : ∀ j, (f j).length = m) : ∀ n, ((List.range n).flatMap f).length = n * m
  | 0 => by simp
  | n + 1 => by rw [flat_succ, List.length_append, flat_length f m h n, h, Nat.succ_mul]

/-- The cells of a deque, j of its ring. -/
def dq (c : Cfg) (w v j : Nat) : List Int := [rAt c w v, rAt c w v + 1] ++ rng (rAt c w v + 2) j
def lev (c : Cfg) (w k : Nat) : List Int := (List.range k).flatMap fun v => dq c w v c.de.toNat
def wkr (c : Cfg) (w : Nat) : List Int := [4 + c.he + c.cl + (w : Int), 4 + c.he + c.cl + c.wo + (w : Int)] ++ lev c w c.le.toNat
def wks (c : Cfg) (k : Nat) : List Int := (List.range k).flatMap (wkr c)
def tsk (c : Cfg) (t : Nat) : List Int := [rDeques c + rAll c + (t : Int) * 5, rDeques c + rAll c + (t : Int) * 5 + 1, rDeques c + rAll c + (t : Int) * 5 + 2, rDeques c + rAll c + (t : Int) * 5 + 3, rDeques c + rAll c + (t : Int) * 5 + 4]
def tks (c : Cfg) (k : Nat) : List Int := (List.range k).flatMap (tsk c)
def allA (_c : Cfg) (k : Nat) : List Int := [0, 1, 2, 3] ++ rng 4 k
def allB (c : Cfg) (k : Nat) : List Int := allA c c.he.toNat ++ rng (4 + c.he) k
def allW (c : Cfg) (k : Nat) : List Int := allB c c.cl.toNat ++ wks c k
def allT (c : Cfg) (k : Nat) : List Int := allW c c.wo.toNat ++ tks c k

theorem dq_length (c : Cfg) (w v j : Nat) : (dq c w v j).length = 2 + j := by simp [dq, rng_length]; omega
theorem lev_length (c : Cfg) (w k : Nat) : (lev c w k).length = k * (2 + c.de.toNat) := flat_length _ _ (fun v => dq_length c w v _) k
theorem wkr_length (c : Cfg) (w : Nat) : (wkr c w).length = 2 + c.le.toNat * (2 + c.de.toNat) := by simp [wkr, lev_length]; omega
theorem wks_length (c : Cfg) (k : Nat) : (wks c k).length = k * (2 + c.le.toNat * (2 + c.de.toNat)) := flat_length _ _ (wkr_length c) k
theorem tks_length (c : Cfg) (k : Nat) : (tks c k).length = k * 5 := flat_length (tsk c) 5 (fun _ => rfl) k
theorem allA_length (c : Cfg) (k : Nat) : (allA c k).length = 4 + k := by simp [allA, rng_length]; omega
theorem allB_length (c : Cfg) (k : Nat) : (allB c k).length = 4 + c.he.toNat + k := by simp [allB, allA_length, rng_length]
theorem allW_length (c : Cfg) (k : Nat) : (allW c k).length = 4 + c.he.toNat + c.cl.toNat + k * (2 + c.le.toNat * (2 + c.de.toNat)) := by simp [allW, allB_length, wks_length]
theorem allT_length (c : Cfg) (k : Nat) : (allT c k).length = 4 + c.he.toNat + c.cl.toNat + c.wo.toNat * (2 + c.le.toNat * (2 + c.de.toNat)) + k * 5 := by simp [allT, allW_length, tks_length]

theorem toNat_cast {x : Int} (h : 0 ≤ x) : ((x.toNat : Nat) : Int) = x := Int.toNat_of_nonneg h
theorem rAll_as {c : Cfg} : rAll c = c.wo * (c.le * (2 + c.de)) := by unfold rAll; rw [Int.mul_assoc]
theorem all_length {c : Cfg} (h : CfgIn c) : ((allT c c.ta.toNat).length : Int) = rCells c := by
  have h1 := h.wo
  have h2 := h.le
  have h3 := h.cl
  have h4 := h.ta
  have h5 := h.de
  have h6 := h.he
  rw [allT_length]
  unfold rCells rDeques
  rw [rAll_as]
  push_cast
  rw [toNat_cast (by omega), toNat_cast (by omega), toNat_cast (by omega), toNat_cast (by omega), toNat_cast (by omega), toNat_cast (by omega), Int.mul_add]
  omega

/-- The place of a cell in the list. -/
def posn (c : Cfg) (x : Int) : Int :=
  if x < 4 + c.he + c.cl then x else if x < 4 + c.he + c.cl + c.wo then 4 + c.he + c.cl + (x - (4 + c.he + c.cl)) * (2 + c.le * (2 + c.de))
  else if x < rDeques c then 4 + c.he + c.cl + (x - (4 + c.he + c.cl + c.wo)) * (2 + c.le * (2 + c.de)) + 1
  else if x < rDeques c + rAll c then 4 + c.he + c.cl + ((x - rDeques c) / (c.le * (2 + c.de))) * (2 + c.le * (2 + c.de)) + 2 + (x - rDeques c) % (c.le * (2 + c.de)) else x
def OkAt (c : Cfg) (x k : Int) : Prop := 0 ≤ x ∧ x < rCells c ∧ posn c x = k
def Good (c : Cfg) : Int → List Int → Prop
  | _, [] => True
  | k, x :: l => OkAt c x k ∧ Good c (k + 1) l
theorem good_append {c : Cfg} : ∀ (a b : List Int) (k : Int), Good c k a → Good c (k + a.length) b → Good c k (a ++ b)
  | [], b, k, _, h => by simpa using h
  | x :: a, b, k, h, h' => by
    refine ⟨h.1, good_append a b (k + 1) h.2 ?_⟩
    rw [List.length_cons] at h'
    rwa [show k + 1 + (a.length : Int) = k + ((a.length + 1 : Nat) : Int) by omega]
theorem good_rng {c : Cfg} {a k : Int} : ∀ n : Nat, (∀ i : Nat, i < n → OkAt c (a + i) (k + i)) → Good c k (rng a n)
  | 0, _ => trivial
  | n + 1, h => by
    rw [rng_succ]
    refine good_append _ _ _ (good_rng n (fun i hi => h i (by omega))) ⟨?_, trivial⟩
    rw [rng_length]
    exact h n (by omega)
theorem good_flat {c : Cfg} {f : Nat → List Int} {m : Nat} {k : Int} (hl : ∀ j, (f j).length = m) : ∀ n : Nat, (∀ j : Nat, j < n → Good c (k + (j : Int) * (m : Int)) (f j)) → Good c k ((List.range n).flatMap f)
  | 0, _ => trivial
  | n + 1, h => by
    rw [flat_succ]
    refine good_append _ _ _ (good_flat hl n (fun i hi => h i (by omega))) ?_
    rw [flat_length f m hl]
    have := h n (by omega)
    rwa [show ((n * m : Nat) : Int) = (n : Int) * (m : Int) by push_cast; rfl]
theorem good_at {c : Cfg} : ∀ (l : List Int) (k : Int) (i : Nat), Good c k l → i < l.length → OkAt c (l.getD i 0) (k + i)
  | [], _, _, _, h => absurd h (by simp)
  | x :: l, k, 0, h, _ => by simpa using h.1
  | x :: l, k, i + 1, h, hi => by
    have := good_at l (k + 1) i h.2 (by simpa using hi)
    rw [show k + ((i + 1 : Nat) : Int) = k + 1 + (i : Int) by omega]
    simpa using this

theorem rAt_as (c : Cfg) (w v : Nat) : rAt c w v = rDeques c + ((w : Int) * (c.le * (2 + c.de)) + v * (2 + c.de)) := by
  unfold rAt
  rw [Int.add_mul, Int.mul_assoc]
section
variable {c : Cfg} (h : CfgIn c)
include h
theorem ok_low {x : Int} (h0 : 0 ≤ x) (h1 : x < 4 + c.he + c.cl) : OkAt c x x := by
  have h2 := h.all
  have h3 := h.ta
  have h4 := h.wo
  refine ⟨h0, by unfold rCells rDeques; omega, ?_⟩
  unfold posn
  rw [if_pos h1]
theorem ok_epoch {w : Nat} (hw : (w : Int) < c.wo) : OkAt c (4 + c.he + c.cl + w) (4 + c.he + c.cl + w * (2 + c.le * (2 + c.de))) := by
  have h2 := h.all
  have h3 := h.ta
  have h4 := h.he
  have h5 := h.cl
  refine ⟨by omega, by unfold rCells rDeques; omega, ?_⟩
  unfold posn
  rw [if_neg (by omega), if_pos (by omega), show 4 + c.he + c.cl + (w : Int) - (4 + c.he + c.cl) = w by omega]
theorem ok_bitmap {w : Nat} (hw : (w : Int) < c.wo) : OkAt c (4 + c.he + c.cl + c.wo + w) (4 + c.he + c.cl + w * (2 + c.le * (2 + c.de)) + 1) := by
  have h2 := h.all
  have h3 := h.ta
  have h4 := h.he
  have h5 := h.cl
  have h6 := h.wo
  refine ⟨by omega, by unfold rCells rDeques; omega, ?_⟩
  unfold posn
  rw [if_neg (by omega), if_neg (by omega), if_pos (by unfold rDeques; omega), show 4 + c.he + c.cl + c.wo + (w : Int) - (4 + c.he + c.cl + c.wo) = w by omega]
theorem ok_deque {w v j : Nat} (hw : (w : Int) < c.wo) (hv : (v : Int) < c.le) (hj : (j : Int) < 2 + c.de) :
    OkAt c (rAt c w v + j) (4 + c.he + c.cl + w * (2 + c.le * (2 + c.de)) + 2 + (v * (2 + c.de) + j)) := by
  have h1 := h.at_ (w := w) (l := v) ⟨by omega, hw, by omega, hv⟩
  have h2 := h.all
  have h3 := h.ta
  have h4 := h.he
  have h5 := h.cl
  have h6 := h.wo
  have h7 := h.de
  have hd := h.deques
  have hx : rAt c w v = rDeques c + ((w : Int) * c.le + v) * (2 + c.de) := rfl
  have hv0 : 0 ≤ (v : Int) * (2 + c.de) := Int.mul_nonneg (by omega) (by omega)
  have hvM : (v : Int) * (2 + c.de) + (2 + c.de) ≤ c.le * (2 + c.de) := by
    have := Int.mul_le_mul_of_nonneg_right (show (v : Int) + 1 ≤ c.le by omega) (show 0 ≤ 2 + c.de by omega)
    rwa [Int.add_mul, Int.one_mul] at this
  refine ⟨by omega, by unfold rCells; omega, ?_⟩
  unfold posn
  have hq : rDeques c = 4 + c.he + c.cl + 2 * c.wo := rfl
  rw [if_neg (by omega), if_neg (by omega), if_neg (by omega), if_pos (by omega)]
  rw [rAt_as c w v]
  obtain ⟨M, hM⟩ : ∃ M, c.le * (2 + c.de) = M := ⟨_, rfl⟩
  obtain ⟨V, hV⟩ : ∃ V, (v : Int) * (2 + c.de) = V := ⟨_, rfl⟩
  rw [hM, hV] at hvM
  rw [hV] at hv0
  rw [hM, hV]
  have hM0 : 0 < M := by omega
  have e1 : rDeques c + ((w : Int) * M + V) + (j : Int) - rDeques c = (V + j) + M * w := by rw [Int.mul_comm M]; omega
  rw [e1, Int.add_mul_ediv_left _ _ (by omega), Int.ediv_eq_zero_of_lt (by omega) (by omega), Int.add_mul_emod_self_left, Int.emod_eq_of_lt (by omega) (by omega), Int.zero_add]
theorem ok_task {t j : Nat} (ht : (t : Int) < c.ta) (hj : j < 5) : OkAt c (rDeques c + rAll c + (t : Int) * 5 + j) (rDeques c + rAll c + (t : Int) * 5 + j) := by
  have h2 := h.all
  have h4 := h.he
  have h5 := h.cl
  have h6 := h.wo
  have hd := h.deques
  have hq : rDeques c = 4 + c.he + c.cl + 2 * c.wo := rfl
  refine ⟨by omega, by unfold rCells; omega, ?_⟩
  unfold posn
  rw [if_neg (by omega), if_neg (by omega), if_neg (by omega), if_neg (by omega)]

theorem good_all : Good c 0 (allT c c.ta.toNat) := by
  have h1 := h.wo
  have h2 := h.le
  have h3 := h.cl
  have h4 := h.ta
  have h5 := h.de
  have h6 := h.he
  have e1 := toNat_cast (x := c.wo) (by omega)
  have e2 := toNat_cast (x := c.le) (by omega)
  have e3 := toNat_cast (x := c.cl) (by omega)
  have e4 := toNat_cast (x := c.ta) (by omega)
  have e5 := toNat_cast (x := c.de) (by omega)
  have e6 := toNat_cast (x := c.he) (by omega)
  have low : ∀ x k : Int, 0 ≤ x → x < 4 + c.he + c.cl → x = k → OkAt c x k := fun x k a b e => e ▸ ok_low h a b
  unfold allT
  refine good_append _ _ _ (good_append _ _ _ (good_append _ _ _ (good_append _ _ _ ?_ ?_) ?_) ?_) ?_
  · exact ⟨low 0 _ (by omega) (by omega) (by omega), low 1 _ (by omega) (by omega) (by omega), low 2 _ (by omega) (by omega) (by omega), low 3 _ (by omega) (by omega) (by omega), trivial⟩
  · refine good_rng _ (fun i hi => low _ _ (by omega) (by omega) ?_)
    simp
  · refine good_rng _ (fun i hi => low _ _ (by omega) (by omega) ?_)
    rw [allA_length]
    omega
  · rw [allB_length]
    refine good_flat (wkr_length c) _ (fun w hw => ?_)
    have hR : ((2 + c.le.toNat * (2 + c.de.toNat) : Nat) : Int) = 2 + c.le * (2 + c.de) := by
      push_cast
      rw [e2, e5]
    rw [hR]
    have hk : (0 : Int) + ((4 + c.he.toNat + c.cl.toNat : Nat) : Int) + (w : Int) * (2 + c.le * (2 + c.de)) = 4 + c.he + c.cl + (w : Int) * (2 + c.le * (2 + c.de)) := by omega
    rw [hk]
    unfold wkr
    refine good_append _ _ _ ⟨ok_epoch h (by omega), ok_bitmap h (by omega), trivial⟩ ?_
    refine good_flat (fun v => dq_length c w v _) _ (fun v hv => ?_)
    have hk2 : 4 + c.he + c.cl + (w : Int) * (2 + c.le * (2 + c.de)) + (([4 + c.he + c.cl + (w : Int), 4 + c.he + c.cl + c.wo + (w : Int)] : List Int).length : Int) + (v : Int) * ((2 + c.de.toNat : Nat) : Int) = 4 + c.he + c.cl + (w : Int) * (2 + c.le * (2 + c.de)) + 2 + (v : Int) * (2 + c.de) := by
      push_cast
      rw [e5]
      simp
    rw [hk2]
    have hd : ∀ j : Nat, (j : Int) < 2 + c.de → OkAt c (rAt c w v + j) (4 + c.he + c.cl + (w : Int) * (2 + c.le * (2 + c.de)) + 2 + (v : Int) * (2 + c.de) + j) := fun j hj => by
      have := ok_deque h (w := w) (v := v) (j := j) (by omega) (by omega) hj
      rwa [← Int.add_assoc] at this
    unfold dq
    refine good_append _ _ _ ⟨?_, ?_, trivial⟩ (good_rng _ (fun i hi => ?_))
    · simpa using hd 0 (by omega)
    · simpa using hd 1 (by omega)
    · have := hd (2 + i) (by omega)
      push_cast at this
      rw [← Int.add_assoc, ← Int.add_assoc] at this
      simpa using this
  · show Good c (0 + ((allW c c.wo.toNat).length : Int)) _
    rw [allW_length]
    refine good_flat (f := tsk c) (m := 5) (fun _ => rfl) _ (fun t ht => ?_)
    have hk : (0 : Int) + ((4 + c.he.toNat + c.cl.toNat + c.wo.toNat * (2 + c.le.toNat * (2 + c.de.toNat)) : Nat) : Int) + (t : Int) * ((5 : Nat) : Int) = rDeques c + rAll c + (t : Int) * 5 := by
      unfold rDeques
      rw [rAll_as]
      push_cast
      rw [e1, e2, e3, e5, e6, Int.mul_add]
      omega
    show Good c ((0 : Int) + ((4 + c.he.toNat + c.cl.toNat + c.wo.toNat * (2 + c.le.toNat * (2 + c.de.toNat)) : Nat) : Int) + (t : Int) * ((5 : Nat) : Int)) _
    rw [hk]
    have hd := fun j : Nat => fun hj : j < 5 => ok_task h (t := t) (j := j) (by omega) hj
    exact ⟨by simpa using hd 0 (by omega), by simpa using hd 1 (by omega), by simpa [Int.add_assoc] using hd 2 (by omega), by simpa [Int.add_assoc] using hd 3 (by omega), by simpa [Int.add_assoc] using hd 4 (by omega), trivial⟩

/-- Each cell of the list is one, and stands at one place alone. -/
theorem all_in (i : Nat) (hi : i < (allT c c.ta.toNat).length) : 0 ≤ (allT c c.ta.toNat).getD i 0 ∧ (allT c c.ta.toNat).getD i 0 < rCells c := by
  have := good_at _ 0 i (good_all h) hi
  exact ⟨this.1, this.2.1⟩
theorem all_new (i : Nat) (hi : i < (allT c c.ta.toNat).length) : (allT c c.ta.toNat).getD i 0 ∉ (allT c c.ta.toNat).take i := by
  intro hm
  obtain ⟨j, hj, he⟩ := List.getElem_of_mem hm
  have hjl : j < i := by simp at hj; omega
  have h1 := (good_at _ 0 i (good_all h) hi).2.2
  have h2 := (good_at _ 0 j (good_all h) (by omega)).2.2
  have e : (allT c c.ta.toNat).getD j 0 = (allT c c.ta.toNat).getD i 0 := by
    rw [← he, List.getElem_take, List.getD_eq_getElem?_getD, List.getElem?_eq_getElem (by omega)]
    rfl
  rw [e, h1] at h2
  omega
end
end Go.Proofs.Ytffcclgcgiilmaa
