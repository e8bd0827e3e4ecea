/-
  Contracts of the small functions of package script and of its reference, and of Draw, Pick, picked.
-/
import Derived.Test.YtpaacpcmijhcmaaScBase
import Derived.Laws.StructEq
import Derived.BigQuiet
import Derived.Deep.QuietTactic
import Derived.IntWalk
namespace Go.Proofs.Ytpaacpcmijhcmaa
open Go Go.RowKit

/-- The value is returned; what was there is as it was. -/
def Gives (v : Value) (w : World) (e : Ending) (w' : World) : Prop := e = .returned v ∧ Below w.heap.size w w'

theorem rdraw_any (d n : Int) (hn : n ≤ 9223372036854775807) (w : World) :
    Calls Try.prog 30 #[.int .i64 d, .int .i64 n] w fun e w' => e = .returned (.int .i64 (drw d n)) ∧ w = w' := by
  by_cases h : n < 1
  · rw [drw_low d n h]
    clear hn
    go_enter Try.func30, Try.ntmps30
    go_wp2
    go_ret
    exact ⟨rfl, rfl⟩
  · have hr := tmod_in d n h
    by_cases h' : d.tmod n < 0
    · rw [drw_neg d n h h']
      generalize hg : d.tmod n = r at *
      go_enter Try.func30, Try.ntmps30
      go_wp2
      go_ret
      exact ⟨rfl, rfl⟩
    · rw [drw_pos d n h h']
      generalize hg : d.tmod n = r at *
      have h'' : 0 ≤ r := by omega
      go_enter Try.func30, Try.ntmps30
      go_wp2
      go_ret
      exact ⟨rfl, rfl⟩

theorem below_one (w : World) (o : Obj) : Below w.heap.size w (w.alloc o) := (Below.refl _ _).alloc (Nat.le_refl _) o

theorem mach_any (k v n : Int) (hn : n ≤ 9223372036854775807) (w : World) :
    Calls Try.prog 24 #[.agg #[.int .i64 k, .int .i64 v], .int .i64 n] w (Gives (.int .i64 (cls n (k, v))) w) := by
  by_cases hk : k = 0
  · subst hk
    by_cases h : n < 1
    · rw [cls_low n _ h]
      clear hn
      go_enter Try.func24, Try.ntmps24
      go_wp2
      go_ret
      exact ⟨rfl, below_one _ _⟩
    · rw [cls_pick n _ rfl (by omega)]
      have hr := tmod_in v n h
      by_cases h' : v.tmod n < 0
      · rw [drw_neg v n h h']
        generalize hg : v.tmod n = r at *
        go_enter Try.func24, Try.ntmps24
        go_wp2
        go_ret
        exact ⟨rfl, below_one _ _⟩
      · rw [drw_pos v n h h']
        generalize hg : v.tmod n = r at *
        have h'' : 0 ≤ r := by omega
        go_enter Try.func24, Try.ntmps24
        go_wp2
        go_ret
        exact ⟨rfl, below_one _ _⟩
  · rw [cls_other n _ hk]
    have hk' : (k == 0) = false := by simpa using hk
    clear hn
    go_enter Try.func24, Try.ntmps24
    go_wp2
    go_ret
    exact ⟨rfl, below_one _ _⟩

theorem rmach_any (k v n : Int) (hn : n ≤ 9223372036854775807) (w : World) :
    Calls Try.prog 25 #[.agg #[.int .i64 k, .int .i64 v], .int .i64 n] w (Gives (.int .i64 (cls n (k, v))) w) := by
  by_cases hk : k = 0
  · subst hk
    by_cases h : n < 1
    · rw [cls_low n _ h]
      clear hn
      go_enter Try.func25, Try.ntmps25
      go_wp2
      go_ret
      exact ⟨rfl, below_one _ _⟩
    · rw [cls_pick n _ rfl (by omega)]
      have hr := tmod_in v n h
      by_cases h' : v.tmod n < 0
      · rw [drw_neg v n h h']
        generalize hg : v.tmod n = r at *
        go_enter Try.func25, Try.ntmps25
        go_wp2
        go_ret
        exact ⟨rfl, below_one _ _⟩
      · rw [drw_pos v n h h']
        generalize hg : v.tmod n = r at *
        have h'' : 0 ≤ r := by omega
        go_enter Try.func25, Try.ntmps25
        go_wp2
        go_ret
        exact ⟨rfl, below_one _ _⟩
  · rw [cls_other n _ hk]
    have hk' : (k == 0) = false := by simpa using hk
    clear hn
    go_enter Try.func25, Try.ntmps25
    go_wp2
    go_ret
    exact ⟨rfl, below_one _ _⟩

theorem pick_any (m : Int) (w : World) : Calls Try.prog 32 #[.int .i64 m] w (Gives (.agg #[.int .i64 0, .int .i64 m]) w) := by
  go_enter Try.func32, Try.ntmps32
  go_wp2
  exact bodyPost_ret (v := .agg #[.int .i64 0, .int .i64 m]) (by simp [results, Try.results32, go_sem]) rfl ⟨rfl, below_one _ _⟩
theorem picked_any (m : Int) (w : World) : Calls Try.prog 26 #[.int .i64 m] w (Gives (.agg #[.int .i64 0, .int .i64 m]) w) := by
  go_enter Try.func26, Try.ntmps26
  go_wp2_with fail
  refine (pick_any m _).mono ?_
  rintro e w' ⟨rfl, hb⟩
  have hB := (Blk.made w 43 #[.int .i64 0, .int .i64 0]).of_same (hb.block w.heap.size (by simp))
  have h0 := hB.at_ 0
  have h1 := hB.at_ 1
  have f0 := hB.free 0
  have f1 := hB.free 1
  have hb' := (below_one w _).trans (hb.mono (by simp))
  clear hb
  go_wp2
  have hC : Blk ((w'.setCell ⟨w.heap.size, 0, none⟩ (.int .i64 0)).setCell ⟨w.heap.size, 1, none⟩ (.int .i64 m)) w.heap.size 43 #[.int .i64 0, .int .i64 m] := (hB.put 0 (.int .i64 0)).put 1 (.int .i64 m)
  exact bodyPost_ret (v := .agg #[.int .i64 0, .int .i64 m]) (results_cell_row (P := Try.prog) Try.results26 _ _ w.heap.size 43 _ (0, 0) _ rfl hC Try.underlying43 rfl (by kernel_rfl)) rfl ⟨rfl, (hb'.setCell (Nat.le_refl _) _).setCell (Nat.le_refl _) _⟩
end Go.Proofs.Ytpaacpcmijhcmaa
