/-
  Contracts of Short, Number and insert.
-/
import Derived.Test.YtpaacpcmijhcmaaScCallsC
import Derived.Test.YtpaacpcmijhcmaaInts
namespace Go.Proofs.Ytpaacpcmijhcmaa
open Go Go.RowKit

theorem short_any {w : World} {g : Nat} {a2 : Option Addr} {n2 c2 : Nat} (h : w.cell? ⟨g, 0, none⟩ = some (.slice a2 n2 c2)) (a : Option Addr) (n c : Nat) :
    Calls Try.prog 17 #[.slice a n c, .slice (some ⟨g, 0, none⟩) 1 1] w fun e w' => e = .returned (.bool (decide ((n : Int) ≤ 400) && decide ((n2 : Int) ≤ 400))) ∧ w = w' := by
  obtain ⟨R, hR⟩ : ∃ R, (decide ((n : Int) ≤ 400) && decide ((n2 : Int) ≤ 400)) = R := ⟨_, rfl⟩
  rw [hR]
  have HR := Lib.hid hR
  clear hR
  go_enter Try.func17, Try.ntmps17
  go_wp2_with fail
  go_loopw [5] (fun i wr => wr = w ∧ (i = .int .i64 0 ∨ (i = .int .i64 1 ∧ (n2 : Int) ≤ 400))) (fun i _ => (2 - intOf i).toNat)
  case atStart => exact ⟨rfl, .inl rfl⟩
  case round =>
    obtain ⟨rfl, rfl | ⟨rfl, h4⟩⟩ := hrel
    · by_cases h4 : (n2 : Int) ≤ 400
      · go_wp2_with fail
        go_roundw
        case rel => exact ⟨trivial, .inr ⟨rfl, h4⟩⟩
        case measure => simp [intOf]
      · have hr : R = false := by
          rw [← HR.out, decide_eq_false h4, Bool.and_false]
        subst hr
        go_wp2
        go_ret
        exact ⟨rfl, rfl⟩
    · have hr : R = decide ((n : Int) ≤ 400) := by
        rw [← HR.out, decide_eq_true h4, Bool.and_true]
      subst hr
      go_wp2
      go_ret
      exact ⟨rfl, rfl⟩

/-- A number from 0 to n - 1, behind some draws. -/
def NumR (n : Int) (w : World) (e : Ending) (w' : World) : Prop := ∃ y : Nat, (y : Int) < n ∧ e = .returned (.int .i64 y) ∧ ∃ m, w' = w.drewN m

set_option maxHeartbeats 1000000 in
theorem number_any {w : World} {a : Option Addr} {L : Nat} {zs : List Int} (h : InInts w a L zs) (c k : Nat) (hk : k ≤ 1000000) (n : Int) (hn : 1 ≤ n) (hn' : n ≤ 1000000) :
    Calls Try.prog 18 #[.slice a L c, .int .i64 k, .int .i64 n] w (NumR n w) := by
  have hmax := h.2.1
  unfold maxLen at hmax
  by_cases hL : L = 0
  · subst hL
    clear h
    go_enter Try.func18, Try.ntmps18
    go_wp2
    go_ret
    exact ⟨0, by omega, rfl, 0, rfl⟩
  · have hL0 : ((L : Int) == 0) = false := by simp; omega
    have hL1 : (1 : Int) ≤ L := by omega
    have hm : k % L < L := Nat.mod_lt _ (by omega)
    obtain ⟨x, rfl, _, hc⟩ := h.2.2 (k % L) hm
    generalize zs.getD (k % L) 0 = z at hc
    clear h hL
    have hq := fun (d : Int) (u : World) => (rdraw_any d n (by omega) u).mono (fun e w' (h : e = .returned (.int .i64 (drw d n)) ∧ u = w') => (⟨h.1, h.2.symm⟩ : e = .returned (.int .i64 (drw d n)) ∧ w' = u))
    have hmi : (k : Int) % (L : Int) < (L : Int) := Int.emod_lt_of_pos _ (by omega)
    have hmi0 : 0 ≤ (k : Int) % (L : Int) := Int.emod_nonneg _ (by omega)
    have hd0 : 0 ≤ (k : Int) / (L : Int) := Int.ediv_nonneg (by omega) (by omega)
    have hd1 : (k : Int) / (L : Int) ≤ k := Int.ediv_le_self _ (by omega)
    have e0 : 0 ≤ (k : Int) / (L : Int) % 7 := Int.emod_nonneg _ (by omega)
    have e1 : (k : Int) / (L : Int) % 7 < 7 := Int.emod_lt_of_pos _ (by omega)
    go_enter Try.func18, Try.ntmps18
    go_wp2_with fail
    go_quiet ((go_at_call 30; exact Calls.quiet_of_same (hq _ _)))
    obtain ⟨g0, g1⟩ := drw_in (wrap64 (z.tdiv (1 + (k : Int) / (L : Int) % 7))) n hn
    generalize drw (wrap64 (z.tdiv (1 + (k : Int) / (L : Int) % 7))) n = y at *
    obtain ⟨y, rfl⟩ : ∃ u : Nat, y = (u : Int) := ⟨y.toNat, by omega⟩
    go_wp2
    go_ret
    exact ⟨y, g1, rfl, _, rfl⟩

/-- What insert gives. -/
def Inserted (w : World) (es : List (Int × Int)) (k v : Int) (at_ : Nat) (e : Ending) (w' : World) : Prop :=
  ∃ v', e = .returned v' ∧ OwnE w' w.heap.size v' (es.take at_ ++ [(k, v)] ++ es.drop at_) ∧ Below w.heap.size w w'

set_option maxHeartbeats 1000000 in
theorem insert_any {w : World} {a : Option Addr} {L : Nat} {es : List (Int × Int)} (h : Ents w a L es) (c : Nat) (hc : L ≤ c) (hL : L ≤ 400000) (k v : Int) (at_ : Nat) (hat : at_ ≤ L) :
    Calls Try.prog 31 #[.slice a L c, .agg #[.int .i64 k, .int .i64 v], .int .i64 at_] w (Inserted w es k v at_) := by
  have hl := h.1
  have h0 := h.alloc (.cells #[.int .i64 k, .int .i64 v] 43)
  have H1 := (h0.alloc (.cells #[] 43)).front at_ hat
  have O0 : OwnE ((w.alloc (.cells #[.int .i64 k, .int .i64 v] 43)).alloc (.cells #[] 43)) w.heap.size (.slice (some ⟨w.heap.size + 1, 0, none⟩) 0 0) [] := by
    simpa using OwnE.made (w.alloc (.cells #[.int .i64 k, .int .i64 v] 43)) w.heap.size (by simp)
  have B0 : Below w.heap.size w ((w.alloc (.cells #[.int .i64 k, .int .i64 v] 43)).alloc (.cells #[] 43)) := ((Below.refl _ _).alloc (Nat.le_refl _) _).alloc (by simp) _
  have H := Lib.hid h
  clear h h0
  by_cases hca : c = at_
  all_goals
    go_enter Try.func31, Try.ntmps31
    go_wp2_with
      (first
        | (at_builtin
           refine wpList_app (v := .slice (some ⟨w.heap.size + 1, 0, none⟩) 0 0) rfl _ _ rfl rfl O0 rfl H1 (by simp; omega) (by simp; omega) ?_
           intro v1 w1 hown1 hg1 hl1
           have HB := (Blk.made w 43 #[.int .i64 k, .int .i64 v])
           have HB1 := (((HB.of_same (w' := (w.alloc (.cells #[.int .i64 k, .int .i64 v] 43)).alloc (.cells #[] 43)) (Below.heap_alloc _ _ _ HB.lt))).of_same (hg1.block w.heap.size (by simp; omega) (by simp [Value.ownBlock])))
           have c0 : w1.cell? ⟨w.heap.size, 0, none⟩ = some (.int .i64 k) := HB1.at_ 0
           have c1 : w1.cell? ⟨w.heap.size, 1, none⟩ = some (.int .i64 v) := HB1.at_ 1
           have B1 := below_app B0 O0 hg1
           have O1 := hown1.alloc (.cells #[.int .i64 k, .int .i64 v] 43)
           have E1 := ents_one w1 k v
           have B1' := B1.alloc B1.size (.cells #[.int .i64 k, .int .i64 v] 43)
           have hlen1 : (([] : List (Int × Int)) ++ es.take at_).length = at_ := by simp; omega
           have hs1 := B1'.size
           clear HB HB1 hown1 hg1 hl1 H1 O0 B0 B1)
        | (at_builtin
           refine wpList_app (v := v1) rfl _ _ rfl rfl O1 rfl E1 (by rw [hlen1]; omega) hs1 ?_
           intro v2 w2 hown2 hg2 hl2
           have B2 := below_app B1' O1 hg2
           have H2 := (H.out.below B2).rest hc at_ hat
           first
             | rw [if_pos hca] at H2
             | rw [if_neg hca] at H2
           have hlen2 : (([] : List (Int × Int)) ++ es.take at_ ++ [(k, v)]).length = at_ + 1 := by simp; omega
           have hs2 := B2.size
           clear c0 c1 O1 E1 B1' hlen1 hg2 hl2 H hs1)
        | (at_builtin
           refine wpList_app (v := v2) rfl _ _ rfl rfl hown2 rfl H2 (by rw [hlen2]; omega) hs2 ?_
           intro v3 w3 hown3 hg3 hl3
           have B3 := below_app B2 hown2 hg3
           clear hown2 hg3 hl3 H2 B2))
    rw [List.nil_append] at hown3
    go_ret
    exact ⟨v3, rfl, hown3, B3⟩

/-- What Round gives: a complete list, not long. -/
def Rounded (n : Nat) (w : World) (e : Ending) (w' : World) : Prop :=
  ∃ v' es, e = .returned v' ∧ OwnE w' w.heap.size v' es ∧ Comp n es ∧ es.length ≤ n + 3 ∧ Below w.heap.size w w'

theorem mem_inserted {es : List (Int × Int)} {x : Int × Int} {e : Int × Int} {at_ : Nat} (h : x ∈ es ∨ x = e) : x ∈ es.take at_ ++ [e] ++ es.drop at_ := by
  simp only [List.mem_append, List.mem_singleton]
  rcases h with h | rfl
  · rw [← List.take_append_drop at_ es, List.mem_append] at h
    rcases h with h | h
    · exact .inl (.inl h)
    · exact .inr h
  · exact .inl (.inr rfl)
theorem length_inserted {es : List (Int × Int)} {e : Int × Int} {at_ : Nat} (h : at_ ≤ es.length) : (es.take at_ ++ [e] ++ es.drop at_).length = es.length + 1 := by
  simp
  omega

/-- What Round's first loop keeps. -/
def RoundR (w : World) (n : Nat) (l m : Value) (wr : World) : Prop :=
  ∃ es : List (Int × Int), es.length ≤ n ∧ m = .int .i64 es.length ∧ OwnE wr w.heap.size l es ∧ (∀ j : Nat, j < es.length → ((0 : Int), (j : Int)) ∈ es) ∧ Below w.heap.size w wr
/-- What its second loop keeps. -/
def RoundR2 (w : World) (n : Nat) (l m : Value) (wr : World) : Prop :=
  ∃ (k : Nat) (es : List (Int × Int)), k ≤ 2 ∧ m = .int .i64 k ∧ OwnE wr w.heap.size l es ∧ es.length + k ≤ n + 3 ∧ n + 1 ≤ es.length ∧ Comp n es ∧ Below w.heap.size w wr
theorem comp_of_all {n : Nat} {es : List (Int × Int)} (h : ∀ j : Nat, j < n → ((0 : Int), (j : Int)) ∈ es) (ht : ((1 : Int), (0 : Int)) ∈ es) : Comp n es := by
  refine ⟨⟨_, ht, rfl⟩, fun m h0 hm => ?_⟩
  refine ⟨(0, m), ?_, ?_⟩
  · have := h m.toNat (by omega)
    rwa [Int.toNat_of_nonneg h0] at this
  · rw [cls_pick n (0, m) rfl (by omega)]
    exact drw_self m n h0 hm

theorem InInts.below' {w w' : World} {a : Option Addr} {n : Nat} {zs : List Int} (h : InInts w a n zs) {B : Nat} (hB : w.heap.size = B) (hb : Below B w w') : InInts w' a n zs := h.below (hB ▸ hb)

end Go.Proofs.Ytpaacpcmijhcmaa
