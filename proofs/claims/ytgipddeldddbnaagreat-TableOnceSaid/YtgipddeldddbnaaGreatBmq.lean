/-
  Plain mathematics: a set and a clear that run alone. No function is named.
-/
import Derived.Test.YtgipddeldddbnaaGreatMgBD
import Derived.Test.YtgipddeldddbnaaGreatMgBA
namespace Go.Proofs.YtgipddeldddbnaaGreat
open Go Go.RowKit
set_option linter.unusedSimpArgs false
set_option linter.unusedVariables false

theorem runS_goes {stp : St → Fra → St × Fra × Res} {n N : Nat} {s s1 s' : St} {f f1 : Fra} {r : Res} (h : stp s f = (s1, f1, .none)) (hr : runS stp n s1 f1 = some (s', r, N)) : runS stp (n + 1) s f = some (s', r, N + 1) := by
  unfold runS
  rw [h]
  simp [hr]
theorem runS_ends {stp : St → Fra → St × Fra × Res} {n : Nat} {s s1 : St} {f f1 : Fra} {c v : Int} (h : stp s f = (s1, f1, ⟨true, c, v⟩)) : runS stp (n + 1) s f = some (s1, ⟨true, c, v⟩, 1) := by
  unfold runS
  rw [h]
  simp
theorem run_set (s : St) (f : Fra) : runS setS 9 s f = some (s.go 4 f.fa (fun x => bits .or .u64 x (maskS f.fb)), ⟨true, 0, 0⟩, 1) := runS_ends (f1 := f) rfl
theorem run_clear (s : St) (f : Fra) (h : f.ln = 1) (n1 : f.fa ≠ f.qb) (n2 : f.fa ≠ f.qt) : ∃ s' r N, runS clearS 9 s f = some (s', r, N) ∧ s'.X.length = s.X.length ∧ (∀ j, j ≠ f.fa → s'.old j = s.old j) ∧
    ((sizeI (s.old f.qb) (s.old f.qt) ≤ 0 ∧ r = ⟨true, 2, 0⟩ ∧ N = 3 ∧ (s.has f.fa → s'.old f.fa = bits .and .u64 (s.old f.fa) (notU (maskS f.fb)))) ∨
     (¬ sizeI (s.old f.qb) (s.old f.qt) ≤ 0 ∧ r = ⟨true, 1, 0⟩ ∧ N = 4 ∧ (s.has f.fa → s'.old f.fa = bits .or .u64 (bits .and .u64 (s.old f.fa) (notU (maskS f.fb))) (maskS f.fb)))) := by
  obtain ⟨s1, e1⟩ : ∃ s1, s.go 5 f.fa (fun x => bits .and .u64 x (notU (maskS f.fb))) = s1 := ⟨_, rfl⟩
  have k1 := clearS_1 (s := s) h
  rw [e1] at k1
  have ob : s1.old f.qb = s.old f.qb := by rw [← e1]; exact go_other _ _ _ _ _ n1
  have ot : s1.old f.qt = s.old f.qt := by rw [← e1]; exact go_other _ _ _ _ _ n2
  have l1 : s1.X.length = s.X.length := by rw [← e1]; exact go_len _ _ _ _
  have oj : ∀ j, j ≠ f.fa → s1.old j = s.old j := fun j hj => by rw [← e1]; exact go_other _ _ _ _ _ (fun e => hj e.symm)
  have oa : s.has f.fa → s1.old f.fa = bits .and .u64 (s.old f.fa) (notU (maskS f.fb)) := fun hh => by rw [← e1]; exact go_old _ _ _ _ hh
  have k2 := clearS_2 (s := s1) (f := { f with ln := 2 }) rfl
  have ot2 : (s1.go 1 f.qb id).old f.qt = s.old f.qt := (old_load ..).trans ot
  by_cases hc : sizeI (s.old f.qb) (s.old f.qt) ≤ 0
  · have k3 := clearS_3e (s := s1.go 1 f.qb id) (f := { f with fu := s1.old f.qb, ln := 3 }) rfl (by show sizeI (s1.old f.qb) ((s1.go 1 f.qb id).old f.qt) ≤ 0; rw [ob, ot2]; exact hc)
    refine ⟨_, _, _, runS_goes k1 (runS_goes k2 (runS_ends k3)), ?_, fun j hj => ?_, .inl ⟨hc, rfl, rfl, fun hh => ?_⟩⟩
    · rw [go_len, go_len, l1]
    · rw [old_load, old_load, oj j hj]
    · rw [old_load, old_load, oa hh]
  · have k3 := clearS_3 (s := s1.go 1 f.qb id) (f := { f with fu := s1.old f.qb, ln := 3 }) rfl (by show ¬ sizeI (s1.old f.qb) ((s1.go 1 f.qb id).old f.qt) ≤ 0; rw [ob, ot2]; exact hc)
    have k4 := clearS_4 (s := (s1.go 1 f.qb id).go 1 f.qt id) (f := { f with fu := s1.old f.qb, fv := (s1.go 1 f.qb id).old f.qt, ln := 4 }) rfl
    refine ⟨_, _, _, runS_goes k1 (runS_goes k2 (runS_goes k3 (runS_ends k4))), ?_, fun j hj => ?_, .inr ⟨hc, rfl, rfl, fun hh => ?_⟩⟩
    · rw [go_len, go_len, go_len, l1]
    · show (St.go _ 4 f.fa _).old j = _
      rw [go_other _ _ _ _ _ (fun e => hj e.symm), old_load, old_load, oj j hj]
    · show (St.go _ 4 f.fa _).old f.fa = _
      rw [go_old _ _ _ _ (by rw [go_has, go_has, ← e1, go_has]; exact hh), old_load, old_load, oa hh]
end Go.Proofs.YtgipddeldddbnaaGreat
