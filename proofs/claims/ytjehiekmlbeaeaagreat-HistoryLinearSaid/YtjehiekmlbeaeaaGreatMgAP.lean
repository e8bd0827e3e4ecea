/-
  Stage 11: the game of Play as it lies in memory: players, acts, what is done.
  Stage 11: the small functions of Play: can, able, modulo, busy.
-/
import Derived.Test.YtjehiekmlbeaeaaGreatMgAI
import Derived.Test.YtjehiekmlbeaeaaGreatPlyB
import Derived.Test.YtjehiekmlbeaeaaGreatLinC
namespace Go.Proofs.YtjehiekmlbeaeaaGreat
open Go Go.RowKit Go.Shelf
set_option linter.unusedSimpArgs false
set_option linter.unusedVariables false

/-- The cells of an act. -/
abbrev actL (a : ActR) : List Value := [.int .i64 a.k, .int .i64 a.v]
theorem actL_ok (a : ActR) : (actL a).length = 2 ∧ ∀ u, u ∈ actL a → u.oneCell' = true := ⟨rfl, fun u hu => by
  simp only [actL, List.mem_cons, List.not_mem_nil, or_false] at hu
  rcases hu with rfl | rfl <;> rfl⟩
theorem rows_act (l : List ActR) : RowsK 2 (l.map actL) := fun r hr => by
  obtain ⟨x, _, rfl⟩ := List.mem_map.1 hr
  exact actL_ok x
theorem info_act : (Tryz.prog.info? 138).map (fun i => (i.zero, i.size, i.bytes)) = some (some (.agg #[.int .i64 0, .int .i64 0]), 2, 16) := by kernel_rfl
/-- The slice v holds the acts l, in a block of the call's own. -/
def AcR (w : World) (B : Nat) (v : Value) (l : List ActR) : Prop :=
  ∃ a c, v = .slice a l.length c ∧ l.length ≤ c ∧ l.length ≤ maxLen ∧ (l ≠ [] → ∃ g o cur, a = some ⟨g, o, none⟩ ∧ B ≤ g ∧ Blk w g 138 cur ∧ ∀ i, i < l.length → cur[o + i * 2]? = some (.int .i64 (l.getD i ⟨0, 0⟩).k) ∧ cur[o + i * 2 + 1]? = some (.int .i64 (l.getD i ⟨0, 0⟩).v))
section
variable {w w' : World} {B : Nat} {v : Value} {l : List ActR}
theorem AcR.form (h : AcR w B v l) : ∃ a c, v = .slice a l.length c ∧ l.length ≤ c := by
  obtain ⟨a, c, e, hc, _⟩ := h
  exact ⟨a, c, e, hc⟩
theorem AcR.fr {S : List Nat} (h : AcR w B v l) (hf : Fr S w w') (hS : ∀ g cur, Blk w g 138 cur → g ∉ S) : AcR w' B v l := by
  obtain ⟨a, c, e, hc, hm, hr⟩ := h
  refine ⟨a, c, e, hc, hm, fun hl => ?_⟩
  obtain ⟨g, o, cur, ha, hb, hg, hi⟩ := hr hl
  exact ⟨g, o, cur, ha, hb, hg.of_same (hf.block g hg.lt (hS g cur hg)), hi⟩
theorem AcR.below (h : AcR w B v l) (hb : Below w.heap.size w w') : AcR w' B v l := h.fr (Fr.old (S := []) hb) (by simp)
theorem AcR.of_own (h : OwnG w B 138 2 v (l.map actL)) : AcR w B v l := by
  by_cases hl : l = []
  · subst hl
    obtain ⟨a, c, e, hc⟩ := h.form
    exact ⟨a, c, e, hc, by unfold maxLen; simp, fun h => absurd rfl h⟩
  · obtain ⟨g, cap, cur, e, hB, hg, hn, hm, hs, hc⟩ := h.blk (by simpa using hl)
    rw [List.length_map] at e hn hc
    refine ⟨_, cap, e, hn, Nat.le_trans hn hm, fun _ => ⟨g, 0, cur, rfl, hB, hg, fun i hi => ?_⟩⟩
    have eg : (l.map actL).getD i [] = actL (l.getD i ⟨0, 0⟩) := by
      rw [List.getD_eq_getElem?_getD, List.getD_eq_getElem?_getD, List.getElem?_map, List.getElem?_eq_getElem hi]
      rfl
    have h0 := hc i 0 hi (by omega)
    have h1 := hc i 1 hi (by omega)
    rw [eg] at h0 h1
    exact ⟨by rw [Nat.zero_add]; exact h0, by rw [Nat.zero_add]; exact h1⟩
/-- The first act and the rest. -/
theorem AcR.next {a : ActR} {r : List ActR} (h : AcR w B v (a :: r)) : ∃ g o c cur, v = .slice (some ⟨g, o, none⟩) (r.length + 1) c ∧ r.length + 1 ≤ c ∧ B ≤ g ∧ Blk w g 138 cur ∧ w.cell? ⟨g, o, none⟩ = some (.int .i64 a.k) ∧ w.cell? ⟨g, o + 1, none⟩ = some (.int .i64 a.v) ∧ r.length + 1 ≤ maxLen
    ∧ (c = 1 → AcR w B (.slice (some ⟨g, o, none⟩) r.length (c - 1)) r) ∧ AcR w B (.slice (some ⟨g, o + 2, none⟩) r.length (c - 1)) r := by
  obtain ⟨x, c, e, hc, hm, hr⟩ := h
  obtain ⟨g, o, cur, rfl, hb, hg, hi⟩ := hr (by simp)
  rw [List.length_cons] at e hc hm
  have h0 := hi 0 (by simp)
  refine ⟨g, o, c, cur, e, hc, hb, hg, by rw [hg.at_]; exact h0.1, by rw [hg.at_]; exact h0.2, hm, fun h1 => ?_, ?_⟩
  · have hz : r = [] := List.eq_nil_of_length_eq_zero (by omega)
    subst hz
    exact ⟨_, _, rfl, by simp, by unfold maxLen; simp, fun h => absurd rfl h⟩
  · refine ⟨_, _, rfl, by omega, by omega, fun _ => ⟨g, o + 2, cur, rfl, hb, hg, fun i hi2 => ?_⟩⟩
    have h2 := hi (i + 1) (by simp; omega)
    rw [show o + (i + 1) * 2 = o + 2 + i * 2 by omega] at h2
    exact h2
end
/-- The players' block. -/
def PB (w : World) (bp K : Nat) (row : Nat → Nat → Value) : Prop := ∃ cs, Blk w bp 145 cs ∧ ∀ i j, i < K → j < 8 → cs[i * 8 + j]? = some (row i j)
/-- A row with one cell changed. -/
def rowS (row : Nat → Nat → Value) (i j : Nat) (v : Value) : Nat → Nat → Value := fun a b => if a = i ∧ b = j then v else row a b
section
variable {w w' : World} {bp K : Nat} {row : Nat → Nat → Value}
theorem rowS_at (row : Nat → Nat → Value) (i j : Nat) (v : Value) : rowS row i j v i j = v := if_pos ⟨rfl, rfl⟩
theorem rowS_ne (row : Nat → Nat → Value) (i j : Nat) (v : Value) {a b : Nat} (h : a ≠ i ∨ b ≠ j) : rowS row i j v a b = row a b := if_neg (fun e => by rcases h with h | h; exact h e.1; exact h e.2)
theorem PB.lt (h : PB w bp K row) : bp < w.heap.size := by
  obtain ⟨cs, hb, _⟩ := h
  exact hb.lt
theorem PB.cell (h : PB w bp K row) {i : Nat} (hi : i < K) (j : Nat) (hj : j < 8) : w.cell? ⟨bp, i * 8 + j, none⟩ = some (row i j) := by
  obtain ⟨cs, hb, hc⟩ := h
  rw [hb.at_]
  exact hc i j hi hj
theorem PB.free (h : PB w bp K row) (o : Nat) : w.frozen? ⟨bp, o, none⟩ = false := by
  obtain ⟨cs, hb, _⟩ := h
  exact hb.free o
theorem PB.put (h : PB w bp K row) (i j : Nat) (hj : j < 8) (v : Value) : PB (w.setCell ⟨bp, i * 8 + j, none⟩ v) bp K (rowS row i j v) := by
  obtain ⟨cs, hb, hc⟩ := h
  refine ⟨_, hb.put (i * 8 + j) v, fun a b ha hb2 => ?_⟩
  by_cases e : a = i ∧ b = j
  · obtain ⟨rfl, rfl⟩ := e
    rw [rowS_at, Array.getElem?_setIfInBounds_self_of_lt ((Array.getElem?_eq_some_iff.1 (hc a b ha hb2)).1)]
  · rw [rowS_ne _ _ _ _ (by omega), Array.getElem?_setIfInBounds_ne (by omega)]
    exact hc a b ha hb2
theorem PB.fr {S : List Nat} (h : PB w bp K row) (hf : Fr S w w') (hS : bp ∉ S) : PB w' bp K row := by
  obtain ⟨cs, hb, hc⟩ := h
  exact ⟨cs, hb.of_same (hf.block bp hb.lt hS), hc⟩
theorem PB.below (h : PB w bp K row) (hb : Below w.heap.size w w') : PB w' bp K row := h.fr (Fr.old (S := []) hb) (by simp)
theorem PB.apart (h : PB w bp K row) {b : Nat} {t : TypeId} {cs : Array Value} (hb : Blk w b t cs) (ht : 145 ≠ t) : bp ≠ b := by
  obtain ⟨cs0, h0, _⟩ := h
  exact h0.apart hb ht
theorem PB.congr {row' : Nat → Nat → Value} (h : PB w bp K row) (e : ∀ i j, i < K → j < 8 → row i j = row' i j) : PB w bp K row' := by
  obtain ⟨cs, hb, hc⟩ := h
  exact ⟨cs, hb, fun i j hi hj => by rw [← e i j hi hj]; exact hc i j hi hj⟩
end
end Go.Proofs.YtjehiekmlbeaeaaGreat

namespace Go.Proofs.YtjehiekmlbeaeaaGreat
open Go Go.RowKit Go.Shelf
set_option linter.unusedSimpArgs false
set_option linter.unusedVariables false

theorem can_any (i : Nat) (a : ActR) (w : World) : Calls Tryz.prog 114 #[.int .i64 i, .int .i64 a.k] w fun e w' => e = .returned (.bool (canR i a)) ∧ w = w' := by
  obtain ⟨k, v⟩ := a
  unfold canR
  by_cases hi : i = 0
  · subst hi
    rw [if_pos rfl, show ((0 : Nat) : Int) = 0 from rfl]
    by_cases h0 : k = 0
    · subst h0
      go_enter Tryz.func114, Tryz.ntmps114
      go_wp2
      go_ret
      exact ⟨rfl, rfl⟩
    · have h1 : (k == 0) = false := by simpa using h0
      obtain ⟨b, hb⟩ : ∃ b, (k == 1) = b := ⟨_, rfl⟩
      show Calls _ _ _ _ fun e w' => e = .returned (.bool (k == 0 || k == 1)) ∧ w = w'
      rw [h1, hb]
      have HB := Lib.hid hb
      clear h0
      cases b with
      | true =>
        go_enter Tryz.func114, Tryz.ntmps114
        go_wp2
        go_ret
        exact ⟨rfl, rfl⟩
      | false =>
        go_enter Tryz.func114, Tryz.ntmps114
        go_wp2
        go_ret
        exact ⟨rfl, rfl⟩
  · rw [if_neg hi]
    have h1 : ((i : Int) == 0) = false := by simp; omega
    obtain ⟨b, hb⟩ : ∃ b, (k == 2) = b := ⟨_, rfl⟩
    show Calls _ _ _ _ fun e w' => e = .returned (.bool (k == 2)) ∧ w = w'
    rw [hb]
    clear hi
    cases b with
    | true =>
      go_enter Tryz.func114, Tryz.ntmps114
      go_wp2
      go_ret
      exact ⟨rfl, rfl⟩
    | false =>
      go_enter Tryz.func114, Tryz.ntmps114
      go_wp2
      go_ret
      exact ⟨rfl, rfl⟩
theorem modulo_any (p : Int) (n : Nat) (hn : 0 < n) (hn2 : n ≤ 1000000) (hp : -9223372036854775808 ≤ p ∧ p ≤ 9223372036854775807) (w : World) :
    Calls Tryz.prog 64 #[.int .i64 p, .int .i64 n] w fun e w' => e = .returned (.int .i64 ((p.emod n).toNat : Nat)) ∧ w = w' := by
  have h1 := Int.emod_nonneg p (show (n : Int) ≠ 0 by omega)
  have h2 := Int.emod_lt_of_pos p (show (0 : Int) < (n : Int) by omega)
  have h3 : p.emod n = p % n := rfl
  obtain ⟨r, hr⟩ : ∃ r : Int, p.tmod n = r := ⟨_, rfl⟩
  have h4 : (p.tmod n) = (if 0 ≤ p then p % n else -((-p) % n)) := by
    split
    · rename_i h
      exact Int.tmod_eq_emod_of_nonneg h
    · rename_i h
      rw [show p = -(-p) by omega, Int.neg_tmod, Int.tmod_eq_emod_of_nonneg (by omega), Int.neg_neg]
  have h5 : 0 ≤ r → r = ((p.emod n).toNat : Nat) := by
    intro h
    rw [← hr, h4] at h
    rw [← hr, h4, h3]
    split
    · omega
    · rename_i hp0
      rw [if_neg hp0] at h
      have e : (-p) % (n : Int) = 0 := by
        have := Int.emod_nonneg (-p) (show (n : Int) ≠ 0 by omega)
        omega
      have e2 : p % (n : Int) = 0 := by
        have hd := Int.dvd_of_emod_eq_zero e
        exact Int.emod_eq_zero_of_dvd (by simpa using hd)
      omega
  have h6 : r < 0 → r + n = ((p.emod n).toNat : Nat) := by
    intro h
    rw [← hr, h4] at h
    rw [← hr, h4, h3]
    split
    · rename_i hp0
      rw [if_pos hp0] at h
      omega
    · rename_i hp0
      rw [if_neg hp0] at h
      have hne : (-p) % (n : Int) ≠ 0 := by omega
      have e : p % (n : Int) = n - (-p) % n := by
        have e1 : (-p) % (n : Int) = n - p % n := by
          rw [Int.neg_emod]
          split
          · rename_i hd
            exfalso
            apply hne
            exact Int.emod_eq_zero_of_dvd (by simpa using hd)
          · rw [Int.natAbs_natCast]
        omega
      omega
  have h7 : -(n : Int) < r ∧ r < n := by
    rw [← hr, h4]
    have := Int.emod_nonneg (-p) (show (n : Int) ≠ 0 by omega)
    have := Int.emod_lt_of_pos (-p) (show (0 : Int) < (n : Int) by omega)
    split <;> omega
  obtain ⟨z, hz⟩ : ∃ z : Nat, (p.emod n).toNat = z := ⟨_, rfl⟩
  rw [hz] at h5 h6 ⊢
  have hn0 : ¬ (n : Int) = 0 := by omega
  have hn00 : ¬ n = 0 := by omega
  rw [← hr] at h5 h6 h7
  have HH := Lib.hid (And.intro h5 h6)
  clear h1 h2 h3 h4 h5 h6 hz hr hp
  by_cases hr0 : p.tmod n < 0
  · have e6 := Lib.hid (HH.out.2 hr0)
    go_enter Tryz.func64, Tryz.ntmps64
    go_wp2
    go_ret
    rw [e6.out]
    exact ⟨rfl, rfl⟩
  · have e5 := Lib.hid (HH.out.1 (by omega))
    go_enter Tryz.func64, Tryz.ntmps64
    go_wp2
    go_ret
    rw [e5.out]
    exact ⟨rfl, rfl⟩
/-- busy: the player at place o. -/
theorem busy_any {w : World} {bp K i q : Nat} {row : Nat → Nat → Value} {X : Mach} {a : Option Addr} {n c : Nat} (h : PB w bp K row) (hi : i < K) (h0 : row i 0 = .slice a n c) (h1 : row i 1 = mval q X) :
    Calls Tryz.prog 65 #[.pointer (some ⟨bp, i * 8, none⟩)] w fun e w' => e = .returned (.bool (!X.idle || decide (0 < n))) ∧ w = w' := by
  have c0 := h.cell hi 0 (by omega)
  have c1 := h.cell hi 1 (by omega)
  rw [h0] at c0
  obtain ⟨V, hV⟩ : ∃ V, mval q X = V := ⟨_, rfl⟩
  rw [h1, hV] at c1
  obtain ⟨o, ho⟩ : ∃ o, i * 8 = o := ⟨_, rfl⟩
  rw [ho] at c0 c1 ⊢
  rw [Nat.add_zero] at c0
  obtain ⟨bn, hbn, _, heq, _, hgu⟩ := eql_machP hV
  have hq0 := heq w
  have hq1 := hgu w
  have hX : X.idle = bn := by
    rw [Bool.eq_iff_iff, hbn]
    exact Mach.idle_iff
  rw [hX]
  clear hX hbn heq hgu hV h h0 h1
  cases bn with
  | true =>
    go_enter Tryz.func65, Tryz.ntmps65
    go_wp2
    go_ret
    exact ⟨rfl, rfl⟩
  | false =>
    go_enter Tryz.func65, Tryz.ntmps65
    go_wp2
    go_ret
    exact ⟨rfl, rfl⟩
/-- What the loop of able keeps. -/
def AbR (w : World) (i : Nat) (l : List ActR) (x v : Value) (wr : World) : Prop := ∃ j : Nat, j ≤ l.length ∧ x = .int .i64 j ∧ OwnG wr w.heap.size 138 2 v (((l.take j).filter (canR i)).map actL) ∧ Below w.heap.size w wr
theorem take_next {α : Type} (l : List α) (p : α → Bool) {j : Nat} (hj : j < l.length) (d : α) : (l.take (j + 1)).filter p = (l.take j).filter p ++ (if p (l.getD j d) = true then [l.getD j d] else []) := by
  rw [List.take_succ_eq_append_getElem hj, List.filter_append, List.getD_eq_getElem?_getD, List.getElem?_eq_getElem hj]
  show _ ++ List.filter p [l[j]] = _ ++ if p l[j] = true then [l[j]] else []
  by_cases h : p l[j] = true
  · rw [if_pos h]; simp [h]
  · rw [if_neg h]; simp [h]
set_option maxRecDepth 100000 in
set_option maxHeartbeats 8000000 in
theorem able_any {w : World} {a : Option Addr} {N c : Nat} {l : List ActR} (i : Nat) (h : InG w 2 a (l.map actL)) (hN : l.length = N) (hs : N ≤ 900000) :
    Calls Tryz.prog 98 #[.int .i64 i, .slice a N c] w fun e w' => ∃ v, e = .returned v ∧ OwnG w' w.heap.size 138 2 v ((l.filter (canR i)).map actL) ∧ Below w.heap.size w w' := by
  have HO := Lib.hid (And.intro h (And.intro hN hs))
  have hNi : (N : Int) ≤ 900000 := by omega
  clear h hN hs
  go_enter Tryz.func98, Tryz.ntmps98
  go_wp2_with fail
  go_loopw [10, 5] (fun x v wr => AbR w i l x v wr) (fun x _ _ => N - (intOf x).toNat)
  case atStart => exact ⟨0, by omega, rfl, OwnG.nil _ _ _ _, Below.refl _ _⟩
  case round =>
    obtain ⟨j, hj, rfl, hv, hbw⟩ := hrel
    rw [HO.out.2.1] at hj
    have F := Lib.hid (And.intro hv hbw)
    clear hbw
    by_cases hlt : j < N
    case neg =>
      have hjN : j = N := by omega
      subst hjN
      have hf2 : decide ((j : Int) < (j : Int)) = false := by simp
      clear hv
      go_wp2
      go_ret
      refine ⟨_, rfl, ?_, F.out.2⟩
      have := F.out.1
      rwa [List.take_of_length_le (by rw [HO.out.2.1]; exact Nat.le_refl _)] at this
    obtain ⟨va, vc, rfl, hvc⟩ := hv.form
    obtain ⟨m, hm⟩ : ∃ m, (((l.take j).filter (canR i)).map actL).length = m := ⟨_, rfl⟩
    have hml : m ≤ 900000 := by
      rw [← hm, List.length_map]
      refine Nat.le_trans (List.length_filter_le _ _) ?_
      rw [List.length_take]
      omega
    rw [hm] at F ⊢
    have HM := Lib.hid (And.intro hm hml)
    have hlt2 : (j : Int) < (N : Int) := by omega
    have hj0 : (0 : Int) ≤ (j : Int) := by omega
    obtain ⟨x, rfl, hxb, e0, eall⟩ := (HO.out.1.below F.out.2).at_ (i := j) (by rw [List.length_map, HO.out.2.1]; exact hlt) (by omega)
    have e1 := eall 0 (by omega)
    clear eall
    have eg : (l.map actL).getD j [] = actL (l.getD j ⟨0, 0⟩) := by
      rw [List.getD_eq_getElem?_getD, List.getD_eq_getElem?_getD, List.getElem?_map, List.getElem?_eq_getElem (by rw [HO.out.2.1]; exact hlt)]
      rfl
    rw [eg] at e0 e1
    have htn := take_next l (canR i) (j := j) (by rw [HO.out.2.1]; exact hlt) ⟨0, 0⟩
    obtain ⟨o, hoj⟩ : ∃ o, l.getD j ⟨0, 0⟩ = o := ⟨_, rfl⟩
    rw [hoj] at e0 e1 htn
    obtain ⟨k, v⟩ := o
    replace e0 : wr.cell? (x.add (j * 2)) = some (.int .i64 k) := e0
    replace e1 : wr.cell? ⟨(x.add (j * 2)).block, (x.add (j * 2)).off + 1, none⟩ = some (.int .i64 v) := e1
    have HT := Lib.hid htn
    clear hv hvc hm hml eg hoj htn hxb
    go_upto_region 5 with fail
    clear e0 e1
    have HX := Lib.hid (Blk.made wr 138 #[.int .i64 k, .int .i64 v])
    have HV := Lib.hid (F.out.1.below (below_one wr (.cells #[.int .i64 k, .int .i64 v] 138)))
    have HB3 := Lib.hid (F.out.2.alloc F.out.2.size (.cells #[.int .i64 k, .int .i64 v] 138))
    generalize wr.alloc (.cells #[.int .i64 k, .int .i64 v] 138) = V5 at *
    generalize wr.heap.size = ob at *
    have x0 : V5.cell? ⟨ob, 0, none⟩ = some (.int .i64 k) := HX.out.at_ 0
    have x1 : V5.cell? ⟨ob, 1, none⟩ = some (.int .i64 v) := HX.out.at_ 1
    go_wp2_with fail
    (with_reducible refine (can_any i ⟨k, v⟩ _).mono ?_)
    rintro e w6 ⟨rfl, rfl⟩
    obtain ⟨cb, hcb⟩ : ∃ cb, canR i ⟨k, v⟩ = cb := ⟨_, rfl⟩
    have HT2 := Lib.hid (hcb ▸ HT.out)
    rw [hcb]
    clear hcb
    cases cb with
    | true =>
      have HT3 := Lib.hid (show (l.take (j + 1)).filter (canR i) = (l.take j).filter (canR i) ++ [⟨k, v⟩] from HT2.out)
      have hbs := fun (W : World) => Blk.made W 138 #[.int .i64 k, .int .i64 v]
      go_wp2_with (refine wpList_appG info_act rfl (by omega) (by omega) Tryz.underlying136 rfl (.tmp 18) (.tmp 20) rfl rfl (HV.out.below (below_one _ _)) rfl (actL_ok ⟨k, v⟩) (made_row1 (hbs _)) (by rw [HM.out.1]; have := HM.out.2; omega) (Nat.le_trans HB3.out.size (below_one _ _).size) ?_; intro v' w' hown hgr hv')
      go_round
      case rel =>
        refine ⟨j + 1, by rw [HO.out.2.1]; omega, by go_num, ?_, below_appG (HB3.out.alloc HB3.out.size _) (HV.out.below (below_one _ _)) hgr⟩
        rw [HT3.out, List.map_append]
        exact hown
      case measure => simp [intOf]; omega
    | false =>
      have HT3 := Lib.hid (show (l.take (j + 1)).filter (canR i) = (l.take j).filter (canR i) from by rw [HT2.out]; simp)
      go_wp2_with fail
      go_round
      case rel => exact ⟨j + 1, by rw [HO.out.2.1]; omega, by go_num, HT3.out ▸ HV.out, HB3.out⟩
      case measure => simp [intOf]; omega
end Go.Proofs.YtjehiekmlbeaeaaGreat
