/-
  Package memory: Add.
-/
import Derived.Test.YtllkehdokgfafaaMemAcc
namespace Go.Proofs.Ytllkehdokgfafaa
open Go Go.RowKit Go.Shelf

theorem add_fn (x v : Int) (a : Addr) (w : World) (h : w.cell? a = some (.int .u64 v)) : Calls Try.prog 92 #[.int .u64 x, .pointer (some a)] w fun e w' => e = .returned (.int .u64 (IntKind.u64.wrap (x + v))) ∧ w = w' := by
  go_enter Try.func92, Try.ntmps92
  go_wp2
  go_ret
  exact ⟨rfl, rfl⟩

theorem add_any {w : World} {p g cap : Nat} {s : St} (h : Mem w p g cap s) (i v : Int) :
    Calls Try.prog 90 #[.pointer (some ⟨p, 0, none⟩), .int .i64 i, .int .u64 v] w fun e w' => e = .returned (.int .u64 (s.old i)) ∧ Mem w' p g cap (s.go 6 i fun x => IntKind.u64.wrap (x + v)) ∧ Fr [p, g] w w' := by
  have hc : (w.alloc (.cells #[.int .u64 v] 57)).cell? ⟨w.heap.size, 0, none⟩ = some (.int .u64 v) := (Blk.made w 57 #[.int .u64 v]).at_ 0
  have H := access_any (h.alloc (.cells #[.int .u64 v] 57)) 6 i 92 #[.pointer (some ⟨w.heap.size, 0, none⟩)] _ (enters_of Try.func92 (by kernel_rfl) rfl) (fun x => add_fn x v _ _ hc)
  generalize s.old i = x at *
  generalize decide (s.has i) = b at *
  go_enter Try.func90, Try.ntmps90
  go_wp2_with fail
  refine H.mono ?_
  rintro e w' ⟨rfl, hm, hfr⟩
  go_wp2
  go_ret
  exact ⟨rfl, hm, ((Fr.refl _ _).alloc _).trans hfr⟩
end Go.Proofs.Ytllkehdokgfafaa
