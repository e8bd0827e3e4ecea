/-
  Package memory: Store.
-/
import Derived.Test.YthiiidkkdlmneaaMemAcc
namespace Go.Proofs.Ythiiidkkdlmneaa
open Go Go.RowKit Go.Shelf

theorem store_fn (x v : Int) (a : Addr) (w : World) (h : w.cell? a = some (.int .u64 v)) : Calls Try.prog 66 #[.int .u64 x, .pointer (some a)] w fun e w' => e = .returned (.int .u64 v) ∧ w = w' := by
  go_enter Try.func66, Try.ntmps66
  go_wp2
  go_ret
  exact ⟨rfl, rfl⟩

theorem store_any {w : World} {p g cap : Nat} {s : St} (h : Mem w p g cap s) (i v : Int) :
    Calls Try.prog 50 #[.pointer (some ⟨p, 0, none⟩), .int .i64 i, .int .u64 v] w fun e w' => e = .returned (.tuple #[]) ∧ Mem w' p g cap (s.go 2 i fun _ => v) ∧ Fr [p, g] w w' := by
  have hc : (w.alloc (.cells #[.int .u64 v] 50)).cell? ⟨w.heap.size, 0, none⟩ = some (.int .u64 v) := (Blk.made w 50 #[.int .u64 v]).at_ 0
  have H := access_any (h.alloc (.cells #[.int .u64 v] 50)) 2 i 66 #[.pointer (some ⟨w.heap.size, 0, none⟩)] _ (enters_of Try.func66 (by kernel_rfl) rfl) (fun x => store_fn x v _ _ hc)
  generalize s.old i = x at *
  generalize decide (s.has i) = b at *
  go_enter Try.func50, Try.ntmps50
  go_wp2_with fail
  refine H.mono ?_
  rintro e w' ⟨rfl, hm, hfr⟩
  go_wp2
  go_end0
  exact ⟨rfl, hm, ((Fr.refl _ _).alloc _).trans hfr⟩
end Go.Proofs.Ythiiidkkdlmneaa
