/-
  An == between two structs of ints.
-/
import Derived.Test.YtllkehdokgfafaaBlk
import Derived.ChangeKeysEq
namespace Go.Proofs.Ytllkehdokgfafaa
open Go Go.RowKit

theorem qeq_int (k : Nat) (x y : Int) (u : World) : (Op.equalIn (k + 1) 3 (.int .i64 x) (.int .i64 y)).run Try.prog u = .ok (x == y) u := by
  simp [Op.equalIn, run_underlying Try.underlying3]
theorem eqFields_ints (k : Nat) (xs ys : List Int) (u : World) : ∀ (fs : List Field) (is : List Nat), fs.map (fun f => (f.name == "_", f.type, f.offset)) = is.map (fun i => (false, 3, i)) → (∀ i ∈ is, i < xs.length ∧ i < ys.length) →
    (Op.eqFields (k + 1) (xs.map (Value.int .i64)).toArray (ys.map (Value.int .i64)).toArray fs).run Try.prog u = .ok (is.all fun i => xs.getD i 0 == ys.getD i 0) u
  | [], [], _, _ => by simp [Op.eqFields]
  | [], _ :: _, h, _ => by simp at h
  | _ :: _, [], h, _ => by simp at h
  | f :: fs, i :: is, h, hl => by
    simp only [List.map_cons, List.cons.injEq, Prod.mk.injEq] at h
    obtain ⟨⟨hn, ht, ho⟩, hr⟩ := h
    have hp : Try.prog.plainKey 3 = true := by kernel_rfl
    obtain ⟨h1, h2⟩ := hl i (by simp)
    have ih := eqFields_ints k xs ys u fs is hr (fun j hj => hl j (by simp [hj]))
    have g : ∀ zs : List Int, i < zs.length → (zs.map (Value.int .i64)).toArray[f.offset]? = some (.int .i64 (zs.getD i 0)) := by
      intro zs hz
      rw [ho]
      simp [hz]
    have hnm : f.name ≠ "_" := by simpa using hn
    have p1 := run_part_plain (P := Try.prog) u hp (g xs h1)
    have p2 := run_part_plain (P := Try.prog) u hp (g ys h2)
    rw [← ht] at p1 p2
    have p3 := qeq_int k (xs.getD i 0) (ys.getD i 0) u
    rw [← ht] at p3
    simp only [Op.eqFields, hnm, ne_eq, not_false_eq_true, if_true, Sem.run_bind, p1, p2, p3, Result.andThen_ok, List.all_cons]
    cases hb : (xs.getD i 0 == ys.getD i 0) with
    | false => simp
    | true => simpa using ih
end Go.Proofs.Ytllkehdokgfafaa
