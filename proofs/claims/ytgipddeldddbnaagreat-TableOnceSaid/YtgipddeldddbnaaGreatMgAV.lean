/-
  Package owner: the lines of Pop. (Written by wip/gen_own.py.)
  Package parts: On; package owner: Push and Pop; the methods of their machines. (Written by wip/gen_alone.py.)
-/
import Derived.Test.YtgipddeldddbnaaGreatOwB
import Derived.Test.YtgipddeldddbnaaGreatMgAO
import Derived.Test.YtgipddeldddbnaaGreatMgAJ
import Derived.Test.YtgipddeldddbnaaGreatMgAD
import Derived.StillTailTactics
namespace Go.Proofs.YtgipddeldddbnaaGreat
open Go Go.RowKit Go.Shelf
set_option linter.unusedSimpArgs false
set_option linter.unusedVariables false

section
variable {w : World} {p m k g cap : Nat} {s : St} {t d : Int} {hd : List Value} {rv ev : Value} {q : Nat} {f : Fra}

end
end Go.Proofs.YtgipddeldddbnaaGreat

namespace Go.Proofs.YtgipddeldddbnaaGreat
open Go Go.RowKit Go.Shelf
set_option linter.unusedSimpArgs false

abbrev begcells : Array Value := #[.int .i64 1, .int .i64 0, .int .i64 0]
abbrev dzero : Array Value := #[.int .i64 0, .int .i64 0, .int .i64 0, .int .i64 0, .int .i64 0, .int .i64 0, .int .i64 0, .int .u64 0, .int .u64 0]
theorem lbegin_any (w : World) : Calls Tryz.prog 20 #[] w fun e w' => e = .returned (.agg begcells) ∧ Below w.heap.size w w' := by
  have HB := Lib.hid (below_one w (.cells begcells 65))
  have HX := Lib.hid (Blk.made w 65 begcells)
  go_enter Tryz.func20, Tryz.ntmps20
  go_wp2
  refine bodyPost_ret (results_cell_row (P := Tryz.prog) Tryz.results20 _ _ w.heap.size 65 _ (0, 0) _ rfl HX.out Tryz.underlying65 rfl (by kernel_rfl)) rfl ?_
  exact ⟨rfl, HB.out⟩

theorem fr_rowP (w : World) (g : Nat) (cs : Array Value) : Fr [g] w (w.setRow g cs) := ⟨rfl, rfl, rfl, by simp, fun k _ hn => setRow_other w g k cs (fun e => hn (by simp [e]))⟩
set_option maxRecDepth 100000 in
set_option maxHeartbeats 2000000 in
theorem on_any (t b r k : Int) (w : World) : Calls Tryz.prog 105 #[qv t b r k] w fun e w' => e = .returned (.agg (ocells (fra1 0 t b r k 0) 0 0).toArray) ∧ Below w.heap.size w w' := by
  have hX := Blk.made w 161 (qcells t b r k)
  have hB := below_one w (.cells (qcells t b r k) 161)
  have hY := fun V => Blk.made V 165 dzero
  go_enter Tryz.func105, Tryz.ntmps105
  go_upto_region 1 with fail
  have hsz : (w.alloc (.cells (qcells t b r k) 161)).heap.size = w.heap.size + 1 := by simp
  rw [← hsz]
  generalize hW1 : w.alloc (.cells (qcells t b r k) 161) = W1 at *
  have hZ := hY W1
  have hX2 := hX.alloc (.cells dzero 165)
  have hB2 := hB.alloc hB.size (.cells dzero 165)
  have hle : w.heap.size ≤ W1.heap.size := hB.size
  generalize hW2 : W1.alloc _ = W2 at *
  generalize W1.heap.size = g1 at *
  generalize hg0 : w.heap.size = g0 at *
  clear hW1 hW2 hY hX hB hsz W1
  have HB0 := Lib.hid (below_drew hB2)
  have HX0 := Lib.hid (hX2.below (below_drew (Below.refl _ _)))
  have HZ0 := Lib.hid (hZ.below (below_drew (Below.refl _ _)))
  clear hB2 hX2 hZ
  refine wp_region_held_drew (S := (fun w' : World => w'.cell? ⟨g0, 0, none⟩ = some (.int .i64 t) ∧ w'.cell? ⟨g0, 1, none⟩ = some (.int .i64 b) ∧ w'.cell? ⟨g0, 2, none⟩ = some (.int .i64 r) ∧ w'.cell? ⟨g0, 3, none⟩ = some (.int .i64 k))) (by kernel_rfl) ⟨HX0.out.at_ 0, HX0.out.at_ 1, HX0.out.at_ 2, HX0.out.at_ 3⟩ (fun _ => ?_)
  change wpAnyH _ _ _ _ _ 4 #[false, false, false, false] _ (World.drew _)
  refine wpAnyH_take (i := 1) (v := qv t b r k) rfl (by kernel_rfl) (by kernel_rfl) (by kernel_rfl) (fun _ _ _ h => h) (Or.inl ⟨by rfl, fun u hu => by (obtain ⟨u0, u1, u2, u3⟩ := hu; go_simp)⟩) ⟨HX0.out.at_ 0, HX0.out.at_ 1, HX0.out.at_ 2, HX0.out.at_ 3⟩ ?_
  simp only [List.getElem_toArray, List.getElem_cons_succ, List.getElem_cons_zero, Act.put, List.setIfInBounds_toArray, List.set_cons_zero, List.set_cons_succ]
  refine wpAnyH_ready (rs := [0]) (by kernel_rfl) (by simp) ?_
  refine AllReadyH.cons rfl (fun K hK => ?_) AllReadyH.nil
  go_simp
  go_at_call 20
  refine (lbegin_any _).mono ?_
  rintro e w3 ⟨rfl, hb3⟩
  have Q3 := Lib.hid (HX0.out.below hb3)
  have Z3 := Lib.hid (HZ0.out.below hb3)
  have B3 := Lib.hid (HB0.out.trans (hb3.mono (hg0 ▸ HB0.out.size)))
  refine hK.out _ _ ⟨Q3.out.at_ 0, Q3.out.at_ 1, Q3.out.at_ 2, Q3.out.at_ 3⟩ (fun _ => ?_)
  clear hK K
  simp only [List.setIfInBounds_toArray, List.set_cons_zero, List.set_cons_succ]
  refine wpAnyH_take (i := 2) (v := .agg (ocells (fra1 0 t b r k 0) 0 0).toArray) rfl (by kernel_rfl) (by kernel_rfl) (by kernel_rfl) (fun _ _ _ h => h) (Or.inl ⟨by rfl, fun u hu => by (go_simp)⟩) ⟨Q3.out.at_ 0, Q3.out.at_ 1, Q3.out.at_ 2, Q3.out.at_ 3⟩ ?_
  simp only [List.getElem_toArray, List.getElem_cons_succ, List.getElem_cons_zero, Act.put, List.setIfInBounds_toArray, List.set_cons_zero, List.set_cons_succ]
  refine wpAnyH_ready (rs := [3]) (by kernel_rfl) (by simp) ?_
  refine AllReadyH.cons rfl (fun K hK => ?_) AllReadyH.nil
  rw [if_pos (show Region.wanted _ _ = true by rfl)]
  refine wp_store_row 165 (.tmp 2) (.tmp 5) rfl g1 (ocells (fra1 0 t b r k 0) 0 0).toArray rfl rfl 165 dzero Z3.out (by kernel_rfl) rfl (by kernel_rfl) ?_
  have hfr := fr_rowP w3 g1 (ocells (fra1 0 t b r k 0) 0 0).toArray
  have hne : g0 ≠ g1 := Q3.out.apart Z3.out (by decide)
  have Q4 := Lib.hid (Q3.out.of_same (hfr.block g0 Q3.out.lt (by simpa using hne)))
  have Z4 := Lib.hid (show Blk (w3.setRow g1 (ocells (fra1 0 t b r k 0) 0 0).toArray) g1 165 (ocells (fra1 0 t b r k 0) 0 0).toArray from setRow_heap _ _ _ _ _ _ Z3.out)
  have B4 := Lib.hid (below_of_fr (hg0.symm ▸ B3.out) hfr (fun y hy => by simp at hy; omega))
  refine hK.out _ _ ⟨Q4.out.at_ 0, Q4.out.at_ 1, Q4.out.at_ 2, Q4.out.at_ 3⟩ (fun _ => ?_)
  clear hK K
  simp only [List.setIfInBounds_toArray, List.set_cons_zero, List.set_cons_succ]
  refine wpAnyH_done (by kernel_rfl) ?_ _
  generalize w3.setRow g1 (ocells (fra1 0 t b r k 0) 0 0).toArray = W4 at *
  go_wp2
  refine bodyPost_ret (results_cell_row (P := Tryz.prog) Tryz.results105 _ _ g1 165 _ (0, 0) _ rfl Z4.out Tryz.underlying165 rfl (by kernel_rfl)) rfl ?_
  exact ⟨rfl, B4.out⟩

/-- What Push gives: a machine at its first line. -/
def Pushed (t b r k v : Int) (w : World) (e : Ending) (w' : World) : Prop :=
  ∃ q : Nat, e = .returned (.iface 163 (.pointer (some ⟨q, 0, none⟩))) ∧ OB w' q 168 [.int .i64 v] (fra1 0 t b r k v) 0 0 ∧ w.heap.size ≤ q ∧ Below w.heap.size w w'
set_option maxHeartbeats 2000000 in
theorem oPush_any (t b r k : Int) (v : Int) (w : World) : Calls Tryz.prog 100 #[qv t b r k, .int .i64 v] w (Pushed t b r k v w) := by
  have HQ := Lib.hid (below_one w (.cells (qcells t b r k) 161))
  go_enter Tryz.func100, Tryz.ntmps100
  go_wp2_with fail
  (with_reducible refine (on_any t b r k _).mono ?_)
  rintro e w1 ⟨rfl, hb⟩
  have HB := Lib.hid (HQ.out.trans (hb.mono HQ.out.size))
  clear hb
  go_wp2
  go_ret
  have hs := HB.out.size
  refine ⟨w1.heap.size, rfl, ⟨Blk.made w1 _ _, by decide, by decide, by decide, by decide⟩, hs, HB.out.trans ((below_one w1 _).mono hs)⟩

/-- Its methods. -/
theorem meth_step_pusher (q : Nat) (w : World) : (method 281 163 (.pointer (some ⟨q, 0, none⟩)) "Step").run Tryz.prog w = .ok (111, .pointer (some ⟨q, 0, none⟩)) w := by kernel_rfl
theorem ahead_step_pusher (q : Nat) (w : World) : (nilAhead 281 163 (.pointer (some ⟨q, 0, none⟩)) "Step").run Tryz.prog w = .ok (some false) w := by kernel_rfl
theorem meth_result_pusher (q : Nat) (w : World) : (method 281 163 (.pointer (some ⟨q, 0, none⟩)) "Result").run Tryz.prog w = .ok (58, .pointer (some ⟨q, 0, none⟩)) w := by kernel_rfl
theorem ahead_result_pusher (q : Nat) (w : World) : (nilAhead 281 163 (.pointer (some ⟨q, 0, none⟩)) "Result").run Tryz.prog w = .ok (some false) w := by kernel_rfl

end Go.Proofs.YtgipddeldddbnaaGreat
