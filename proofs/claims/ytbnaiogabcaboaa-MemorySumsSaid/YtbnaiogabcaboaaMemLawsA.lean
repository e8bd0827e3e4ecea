/-
  awake, and the walks of the statements MemoryBits, MemorySums, MemoryOnce and MemorySizes.
-/
import Derived.Test.YtbnaiogabcaboaaMemCallsB
import Derived.Laws.StructEq
import Derived.BigRegion
namespace Go.Proofs.Ytbnaiogabcaboaa
open Go Go.RowKit Go.Shelf

theorem eq_access (a0 a1 a2 a3 b0 b1 b2 b3 : Int) (w : World) :
    (binOp .eql 28 (.agg #[.int .i64 a0, .int .i64 a1, .int .u64 a2, .int .u64 a3]) (.agg #[.int .i64 b0, .int .i64 b1, .int .u64 b2, .int .u64 b3])).run Try.prog w = .ok (.bool (a0 == b0 && a1 == b1 && a2 == b2 && a3 == b3)) w := by
  have uA := Try.underlying28
  have uI := Try.underlying3
  have uU := Try.underlying26
  have zI := Try.isAgg3
  have zU := Try.isAgg26
  have sI := Try.sizeOf3
  have sU := Try.sizeOf26
  rw [run_eql_struct, show (10000 : Nat) = 9999 + 1 from rfl, run_equalIn_struct _ _ _ _ _ uA (by kernel_rfl)]
  have hf : (Try.prog.fieldsOf 28).toList = [⟨ "Kind", 3, 0, false, "", "", 0⟩, ⟨ "Cell", 3, 1, false, "", "", 8⟩, ⟨ "Old", 26, 2, false, "", "", 16⟩, ⟨ "New", 26, 3, false, "", "", 24⟩] := by kernel_rfl
  rw [hf]
  by_cases h0 : a0 = b0 <;> by_cases h1 : a1 = b1 <;> by_cases h2 : a2 = b2 <;> by_cases h3 : a3 = b3 <;> simp [Op.eqFields, go_sem, h0, h1, h2, h3]

/-- The state of awake's memory behind its three accesses. -/
def awakeS : St := ⟨[0, 9], 3, 3, 1, 9, 9⟩
theorem awake_st : (((St.new 2).go 6 1 fun x => IntKind.u64.wrap (x + 5)).go 3 1 fun x => if x = 5 then 9 else x).go 3 1 (fun x => if x = 5 then 7 else x) = awakeS := by kernel_rfl

theorem awake_any (w : World) : Calls Try.prog 11 #[] w fun e w' => e = .returned (.bool true) ∧ Below w.heap.size w w' := by
  have heq := fun w => eq_access 3 1 9 9 3 1 9 9 w
  simp only [beq_self_eq_true, Bool.and_true] at heq
  go_enter Try.func11, Try.ntmps11
  go_wp2_with fail
  refine (new_any 2 w).mono ?_
  rintro e w1 ⟨rfl, hm, hb⟩
  have es : sizeS 2 = 2 := rfl
  rw [es] at hm
  clear es
  have hfr : Fr [w.heap.size + 1, w.heap.size] w w1 := Fr.old hb
  clear hb
  go_wp2_with fail
  refine (add_any hm 1 5).mono ?_
  rintro e w2 ⟨rfl, hm2, hf2⟩
  have k2 : (St.new 2).old 1 = 0 := rfl
  rw [k2]
  clear k2
  go_wp2_with fail
  refine (cas_any hm2 1 5 9).mono ?_
  rintro e w3 ⟨rfl, hm3, hf3⟩
  have k3 : (((St.new 2).go 6 1 fun x => IntKind.u64.wrap (x + 5)).hit 1 5) = true := by kernel_rfl
  rw [k3]
  clear k3
  go_wp2_with fail
  refine (cas_any hm3 1 5 7).mono ?_
  rintro e w4 ⟨rfl, hm4, hf4⟩
  have k4 : ((((St.new 2).go 6 1 fun x => IntKind.u64.wrap (x + 5)).go 3 1 fun x => if x = 5 then 9 else x).hit 1 5) = false := by kernel_rfl
  rw [k4]
  clear k4
  rw [awake_st] at hm4
  go_wp2_with fail
  refine (count_any hm4).mono ?_
  rintro e w' ⟨rfl, rfl⟩
  have k5 : awakeS.c = 3 := rfl
  rw [k5]
  clear k5
  go_wp2_with fail
  refine (last_any hm4).mono ?_
  rintro e w5 ⟨rfl, hb5⟩
  have k6 : (Value.agg #[.int .i64 awakeS.k, .int .i64 awakeS.i, .int .u64 awakeS.o, .int .u64 awakeS.v]) = .agg #[.int .i64 3, .int .i64 1, .int .u64 9, .int .u64 9] := rfl
  rw [k6]
  clear k6
  have hz := ((((hfr.trans hf2).trans hf3).trans hf4).drop (Fr.old (S := []) hb5) (by simp)).below (B := w.heap.size) (Nat.le_refl _) (by simp)
  clear hm hm2 hm3 hm4 hf2 hf3 hf4 hfr hb5
  go_wp2
  go_ret
  exact ⟨rfl, hz⟩
end Go.Proofs.Ytbnaiogabcaboaa
