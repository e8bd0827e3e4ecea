/-
  Package parts: On; package owner: Push and Pop; the methods of their machines. (Written by wip/gen_alone.py.)
  Package lock: Acquire, Try and Release, the methods of their machines. (Written by wip/gen_lk.py.)
  Plain mathematics: the steps of a machine until it is done. No function is named.
  workstealmatch.Alone of the machines of the owner. (Written by wip/gen_alone.py.)
-/
import Derived.Test.YtheimjcgpbmecaaGreatMgBE
import Derived.Test.YtheimjcgpbmecaaGreatOwC
import Derived.Test.YtheimjcgpbmecaaGreatMgAA
import Derived.StillTailTactics
import Derived.Test.YtheimjcgpbmecaaGreatMgBH
import Derived.Test.YtheimjcgpbmecaaGreatMgAI
import Derived.LoopTactic
import Derived.OwnWalk
namespace Go.Proofs.YtheimjcgpbmecaaGreat
open Go Go.RowKit Go.Shelf
set_option linter.unusedSimpArgs false

abbrev begcells : Array Value := #[.int .i64 1, .int .i64 0, .int .i64 0]
abbrev dzero : Array Value := #[.int .i64 0, .int .i64 0, .int .i64 0, .int .i64 0, .int .i64 0, .int .i64 0, .int .i64 0, .int .u64 0, .int .u64 0]
theorem lbegin_any (w : World) : Calls Tryz.prog 62 #[] w fun e w' => e = .returned (.agg begcells) ∧ Below w.heap.size w w' := by
  have HB := Lib.hid (below_one w (.cells begcells 136))
  have HX := Lib.hid (Blk.made w 136 begcells)
  go_enter Tryz.func62, Tryz.ntmps62
  go_wp2
  refine bodyPost_ret (results_cell_row (P := Tryz.prog) Tryz.results62 _ _ w.heap.size 136 _ (0, 0) _ rfl HX.out Tryz.underlying136 rfl (by kernel_rfl)) rfl ?_
  exact ⟨rfl, HB.out⟩

theorem fr_rowP (w : World) (g : Nat) (cs : Array Value) : Fr [g] w (w.setRow g cs) := ⟨rfl, rfl, rfl, by simp, fun k _ hn => setRow_other w g k cs (fun e => hn (by simp [e]))⟩
set_option maxRecDepth 100000 in
set_option maxHeartbeats 2000000 in
theorem on_any (t b r k : Int) (w : World) : Calls Tryz.prog 204 #[qv t b r k] w fun e w' => e = .returned (.agg (ocells (fra1 0 t b r k 0) 0 0).toArray) ∧ Below w.heap.size w w' := by
  have hX := Blk.made w 77 (qcells t b r k)
  have hB := below_one w (.cells (qcells t b r k) 77)
  have hY := fun V => Blk.made V 254 dzero
  go_enter Tryz.func204, Tryz.ntmps204
  go_upto_region 1 with fail
  have hsz : (w.alloc (.cells (qcells t b r k) 77)).heap.size = w.heap.size + 1 := by simp
  rw [← hsz]
  generalize hW1 : w.alloc (.cells (qcells t b r k) 77) = W1 at *
  have hZ := hY W1
  have hX2 := hX.alloc (.cells dzero 254)
  have hB2 := hB.alloc hB.size (.cells dzero 254)
  have hle : w.heap.size ≤ W1.heap.size := hB.size
  generalize hW2 : W1.alloc _ = W2 at *
  generalize W1.heap.size = g1 at *
  generalize hg0 : w.heap.size = g0 at *
  clear hW1 hW2 hY hX hB hsz W1
  have HB0 := Lib.hid (below_drew hB2)
  have HX0 := Lib.hid (hX2.below (below_drew (Below.refl _ _)))
  have HZ0 := Lib.hid (hZ.below (below_drew (Below.refl _ _)))
  clear hB2 hX2 hZ
  refine wp_region_held_drew (S := (fun w' : World => w'.cell? ⟨g0, 0, none⟩ = some (.int .i64 t) ∧ w'.cell? ⟨g0, 1, none⟩ = some (.int .i64 b) ∧ w'.cell? ⟨g0, 2, none⟩ = some (.int .i64 r) ∧ w'.cell? ⟨g0, 3, none⟩ = some (.int .i64 k))) (by kernel_rfl) ⟨HX0.out.at_ 0, HX0.out.at_ 1, HX0.out.at_ 2, HX0.out.at_ 3⟩ (fun _ => ?_)
  change wpAnyH _ _ _ _ _ 4 #[false, false, false, false] _ (World.drew _)
  refine wpAnyH_take (i := 1) (v := qv t b r k) rfl (by kernel_rfl) (by kernel_rfl) (by kernel_rfl) (fun _ _ _ h => h) (Or.inl ⟨by rfl, fun u hu => by (obtain ⟨u0, u1, u2, u3⟩ := hu; go_simp)⟩) ⟨HX0.out.at_ 0, HX0.out.at_ 1, HX0.out.at_ 2, HX0.out.at_ 3⟩ ?_
  simp only [List.getElem_toArray, List.getElem_cons_succ, List.getElem_cons_zero, Act.put, List.setIfInBounds_toArray, List.set_cons_zero, List.set_cons_succ]
  refine wpAnyH_ready (rs := [0]) (by kernel_rfl) (by simp) ?_
  refine AllReadyH.cons rfl (fun K hK => ?_) AllReadyH.nil
  go_simp
  go_at_call 62
  refine (lbegin_any _).mono ?_
  rintro e w3 ⟨rfl, hb3⟩
  have Q3 := Lib.hid (HX0.out.below hb3)
  have Z3 := Lib.hid (HZ0.out.below hb3)
  have B3 := Lib.hid (HB0.out.trans (hb3.mono (hg0 ▸ HB0.out.size)))
  refine hK.out _ _ ⟨Q3.out.at_ 0, Q3.out.at_ 1, Q3.out.at_ 2, Q3.out.at_ 3⟩ (fun _ => ?_)
  clear hK K
  simp only [List.setIfInBounds_toArray, List.set_cons_zero, List.set_cons_succ]
  refine wpAnyH_take (i := 2) (v := .agg (ocells (fra1 0 t b r k 0) 0 0).toArray) rfl (by kernel_rfl) (by kernel_rfl) (by kernel_rfl) (fun _ _ _ h => h) (Or.inl ⟨by rfl, fun u hu => by (go_simp)⟩) ⟨Q3.out.at_ 0, Q3.out.at_ 1, Q3.out.at_ 2, Q3.out.at_ 3⟩ ?_
  simp only [List.getElem_toArray, List.getElem_cons_succ, List.getElem_cons_zero, Act.put, List.setIfInBounds_toArray, List.set_cons_zero, List.set_cons_succ]
  refine wpAnyH_ready (rs := [3]) (by kernel_rfl) (by simp) ?_
  refine AllReadyH.cons rfl (fun K hK => ?_) AllReadyH.nil
  rw [if_pos (show Region.wanted _ _ = true by rfl)]
  refine wp_store_row 254 (.tmp 2) (.tmp 5) rfl g1 (ocells (fra1 0 t b r k 0) 0 0).toArray rfl rfl 254 dzero Z3.out (by kernel_rfl) rfl (by kernel_rfl) ?_
  have hfr := fr_rowP w3 g1 (ocells (fra1 0 t b r k 0) 0 0).toArray
  have hne : g0 ≠ g1 := Q3.out.apart Z3.out (by decide)
  have Q4 := Lib.hid (Q3.out.of_same (hfr.block g0 Q3.out.lt (by simpa using hne)))
  have Z4 := Lib.hid (show Blk (w3.setRow g1 (ocells (fra1 0 t b r k 0) 0 0).toArray) g1 254 (ocells (fra1 0 t b r k 0) 0 0).toArray from setRow_heap _ _ _ _ _ _ Z3.out)
  have B4 := Lib.hid (below_of_fr (hg0.symm ▸ B3.out) hfr (fun y hy => by simp at hy; omega))
  refine hK.out _ _ ⟨Q4.out.at_ 0, Q4.out.at_ 1, Q4.out.at_ 2, Q4.out.at_ 3⟩ (fun _ => ?_)
  clear hK K
  simp only [List.setIfInBounds_toArray, List.set_cons_zero, List.set_cons_succ]
  refine wpAnyH_done (by kernel_rfl) ?_ _
  generalize w3.setRow g1 (ocells (fra1 0 t b r k 0) 0 0).toArray = W4 at *
  go_wp2
  refine bodyPost_ret (results_cell_row (P := Tryz.prog) Tryz.results204 _ _ g1 254 _ (0, 0) _ rfl Z4.out Tryz.underlying254 rfl (by kernel_rfl)) rfl ?_
  exact ⟨rfl, B4.out⟩

/-- What Push gives: a machine at its first line. -/
def Pushed (t b r k v : Int) (w : World) (e : Ending) (w' : World) : Prop :=
  ∃ q : Nat, e = .returned (.iface 252 (.pointer (some ⟨q, 0, none⟩))) ∧ OB w' q 257 [.int .i64 v] (fra1 0 t b r k v) 0 0 ∧ w.heap.size ≤ q ∧ Below w.heap.size w w'
set_option maxHeartbeats 2000000 in
theorem oPush_any (t b r k : Int) (v : Int) (w : World) : Calls Tryz.prog 197 #[qv t b r k, .int .i64 v] w (Pushed t b r k v w) := by
  have HQ := Lib.hid (below_one w (.cells (qcells t b r k) 77))
  go_enter Tryz.func197, Tryz.ntmps197
  go_wp2_with fail
  (with_reducible refine (on_any t b r k _).mono ?_)
  rintro e w1 ⟨rfl, hb⟩
  have HB := Lib.hid (HQ.out.trans (hb.mono HQ.out.size))
  clear hb
  go_wp2
  go_ret
  have hs := HB.out.size
  refine ⟨w1.heap.size, rfl, ⟨Blk.made w1 _ _, by decide, by decide, by decide, by decide⟩, hs, HB.out.trans ((below_one w1 _).mono hs)⟩

/-- Its methods. -/
theorem meth_step_pusher (q : Nat) (w : World) : (method 379 252 (.pointer (some ⟨q, 0, none⟩)) "Step").run Tryz.prog w = .ok (232, .pointer (some ⟨q, 0, none⟩)) w := by kernel_rfl
theorem ahead_step_pusher (q : Nat) (w : World) : (nilAhead 379 252 (.pointer (some ⟨q, 0, none⟩)) "Step").run Tryz.prog w = .ok (some false) w := by kernel_rfl
theorem meth_result_pusher (q : Nat) (w : World) : (method 379 252 (.pointer (some ⟨q, 0, none⟩)) "Result").run Tryz.prog w = .ok (192, .pointer (some ⟨q, 0, none⟩)) w := by kernel_rfl
theorem ahead_result_pusher (q : Nat) (w : World) : (nilAhead 379 252 (.pointer (some ⟨q, 0, none⟩)) "Result").run Tryz.prog w = .ok (some false) w := by kernel_rfl

/-- What Pop gives: a machine at its first line. -/
def Poped (t b r k : Int) (w : World) (e : Ending) (w' : World) : Prop :=
  ∃ q : Nat, e = .returned (.iface 268 (.pointer (some ⟨q, 0, none⟩))) ∧ OB w' q 270 [] (fra1 1 t b r k 0) 0 0 ∧ w.heap.size ≤ q ∧ Below w.heap.size w w'
set_option maxHeartbeats 2000000 in
theorem oPop_any (t b r k : Int) (w : World) : Calls Tryz.prog 215 #[qv t b r k] w (Poped t b r k w) := by
  have HQ := Lib.hid (below_one w (.cells (qcells t b r k) 77))
  go_enter Tryz.func215, Tryz.ntmps215
  go_wp2_with fail
  (with_reducible refine (on_any t b r k _).mono ?_)
  rintro e w1 ⟨rfl, hb⟩
  have HB := Lib.hid (HQ.out.trans (hb.mono HQ.out.size))
  clear hb
  go_wp2
  go_ret
  have hs := HB.out.size
  refine ⟨w1.heap.size, rfl, ⟨Blk.made w1 _ _, by decide, by decide, by decide, by decide⟩, hs, HB.out.trans ((below_one w1 _).mono hs)⟩

/-- Its methods. -/
theorem meth_step_popper (q : Nat) (w : World) : (method 379 268 (.pointer (some ⟨q, 0, none⟩)) "Step").run Tryz.prog w = .ok (243, .pointer (some ⟨q, 0, none⟩)) w := by kernel_rfl
theorem ahead_step_popper (q : Nat) (w : World) : (nilAhead 379 268 (.pointer (some ⟨q, 0, none⟩)) "Step").run Tryz.prog w = .ok (some false) w := by kernel_rfl
theorem meth_result_popper (q : Nat) (w : World) : (method 379 268 (.pointer (some ⟨q, 0, none⟩)) "Result").run Tryz.prog w = .ok (192, .pointer (some ⟨q, 0, none⟩)) w := by kernel_rfl
theorem ahead_result_popper (q : Nat) (w : World) : (nilAhead 379 268 (.pointer (some ⟨q, 0, none⟩)) "Result").run Tryz.prog w = .ok (some false) w := by kernel_rfl

end Go.Proofs.YtheimjcgpbmecaaGreat

namespace Go.Proofs.YtheimjcgpbmecaaGreat
open Go Go.RowKit Go.Shelf
set_option linter.unusedSimpArgs false
set_option linter.unusedVariables false


/-- What Acquire gives. -/
def acquirer_made (a : Int) (w : World) (e : Ending) (w' : World) : Prop :=
  ∃ q : Nat, e = .returned (.iface 151 (.pointer (some ⟨q, 0, none⟩))) ∧ LB w' q 155 [.int .i64 a] (fra1 7 0 0 0 0 a) 0 0 ∧ w.heap.size ≤ q ∧ Below w.heap.size w w'
set_option maxHeartbeats 2000000 in
theorem acquirer_new (a : Int) (w : World) : Calls Tryz.prog 31 #[.int .i64 a] w (acquirer_made a w) := by
  go_enter Tryz.func31, Tryz.ntmps31
  go_wp2_with fail
  (with_reducible refine (lbegin_any _).mono ?_)
  rintro e w1 ⟨rfl, hb⟩
  have HB := Lib.hid hb
  clear hb
  go_wp2
  go_ret
  have hs := HB.out.size
  refine ⟨w1.heap.size, rfl, ⟨Blk.made w1 _ _, by decide, by decide, by decide, by decide⟩, hs, HB.out.trans ((below_one w1 _).mono hs)⟩
theorem meth_step_acquirer (q : Nat) (w : World) : (method 379 151 (.pointer (some ⟨q, 0, none⟩)) "Step").run Tryz.prog w = .ok (224, .pointer (some ⟨q, 0, none⟩)) w := by kernel_rfl
theorem ahead_step_acquirer (q : Nat) (w : World) : (nilAhead 379 151 (.pointer (some ⟨q, 0, none⟩)) "Step").run Tryz.prog w = .ok (some false) w := by kernel_rfl
theorem meth_result_acquirer (q : Nat) (w : World) : (method 379 151 (.pointer (some ⟨q, 0, none⟩)) "Result").run Tryz.prog w = .ok (192, .pointer (some ⟨q, 0, none⟩)) w := by kernel_rfl
theorem ahead_result_acquirer (q : Nat) (w : World) : (nilAhead 379 151 (.pointer (some ⟨q, 0, none⟩)) "Result").run Tryz.prog w = .ok (some false) w := by kernel_rfl

/-- What Try gives. -/
def trier_made (a : Int) (w : World) (e : Ending) (w' : World) : Prop :=
  ∃ q : Nat, e = .returned (.iface 156 (.pointer (some ⟨q, 0, none⟩))) ∧ LB w' q 157 [.int .i64 a] (fra1 8 0 0 0 0 a) 0 0 ∧ w.heap.size ≤ q ∧ Below w.heap.size w w'
set_option maxHeartbeats 2000000 in
theorem trier_new (a : Int) (w : World) : Calls Tryz.prog 32 #[.int .i64 a] w (trier_made a w) := by
  go_enter Tryz.func32, Tryz.ntmps32
  go_wp2_with fail
  (with_reducible refine (lbegin_any _).mono ?_)
  rintro e w1 ⟨rfl, hb⟩
  have HB := Lib.hid hb
  clear hb
  go_wp2
  go_ret
  have hs := HB.out.size
  refine ⟨w1.heap.size, rfl, ⟨Blk.made w1 _ _, by decide, by decide, by decide, by decide⟩, hs, HB.out.trans ((below_one w1 _).mono hs)⟩
theorem meth_step_trier (q : Nat) (w : World) : (method 379 156 (.pointer (some ⟨q, 0, none⟩)) "Step").run Tryz.prog w = .ok (229, .pointer (some ⟨q, 0, none⟩)) w := by kernel_rfl
theorem ahead_step_trier (q : Nat) (w : World) : (nilAhead 379 156 (.pointer (some ⟨q, 0, none⟩)) "Step").run Tryz.prog w = .ok (some false) w := by kernel_rfl
theorem meth_result_trier (q : Nat) (w : World) : (method 379 156 (.pointer (some ⟨q, 0, none⟩)) "Result").run Tryz.prog w = .ok (192, .pointer (some ⟨q, 0, none⟩)) w := by kernel_rfl
theorem ahead_result_trier (q : Nat) (w : World) : (nilAhead 379 156 (.pointer (some ⟨q, 0, none⟩)) "Result").run Tryz.prog w = .ok (some false) w := by kernel_rfl

/-- What Release gives. -/
def releaser_made (w : World) (e : Ending) (w' : World) : Prop :=
  ∃ q : Nat, e = .returned (.iface 147 (.pointer (some ⟨q, 0, none⟩))) ∧ LB w' q 150 [] (fra1 9 0 0 0 0 0) 0 0 ∧ w.heap.size ≤ q ∧ Below w.heap.size w w'
set_option maxHeartbeats 2000000 in
theorem releaser_new (w : World) : Calls Tryz.prog 30 #[] w (releaser_made w) := by
  go_enter Tryz.func30, Tryz.ntmps30
  go_wp2_with fail
  (with_reducible refine (lbegin_any _).mono ?_)
  rintro e w1 ⟨rfl, hb⟩
  have HB := Lib.hid hb
  clear hb
  go_wp2
  go_ret
  have hs := HB.out.size
  refine ⟨w1.heap.size, rfl, ⟨Blk.made w1 _ _, by decide, by decide, by decide, by decide⟩, hs, HB.out.trans ((below_one w1 _).mono hs)⟩
theorem meth_step_releaser (q : Nat) (w : World) : (method 379 147 (.pointer (some ⟨q, 0, none⟩)) "Step").run Tryz.prog w = .ok (221, .pointer (some ⟨q, 0, none⟩)) w := by kernel_rfl
theorem ahead_step_releaser (q : Nat) (w : World) : (nilAhead 379 147 (.pointer (some ⟨q, 0, none⟩)) "Step").run Tryz.prog w = .ok (some false) w := by kernel_rfl
theorem meth_result_releaser (q : Nat) (w : World) : (method 379 147 (.pointer (some ⟨q, 0, none⟩)) "Result").run Tryz.prog w = .ok (192, .pointer (some ⟨q, 0, none⟩)) w := by kernel_rfl
theorem ahead_result_releaser (q : Nat) (w : World) : (nilAhead 379 147 (.pointer (some ⟨q, 0, none⟩)) "Result").run Tryz.prog w = .ok (some false) w := by kernel_rfl

end Go.Proofs.YtheimjcgpbmecaaGreat

namespace Go.Proofs.YtheimjcgpbmecaaGreat
open Go Go.RowKit
set_option linter.unusedSimpArgs false

/-- A machine's steps until it is done: the state, the result, how many there are. -/
def runS (stp : St → Fra → St × Fra × Res) : Nat → St → Fra → Option (St × Res × Nat)
  | 0, _, _ => none
  | n + 1, s, f => if (stp s f).2.2.dn = true then some ((stp s f).1, (stp s f).2.2, 1) else (runS stp n (stp s f).1 (stp s f).2.1).map fun x => (x.1, x.2.1, x.2.2 + 1)
theorem runS_end {stp : St → Fra → St × Fra × Res} {n N : Nat} {s s' : St} {f : Fra} {r : Res} (h : runS stp (n + 1) s f = some (s', r, N)) (hd : (stp s f).2.2.dn = true) : (stp s f).1 = s' ∧ (stp s f).2.2 = r ∧ N = 1 := by
  unfold runS at h
  rw [if_pos hd] at h
  simp only [Option.some.injEq, Prod.mk.injEq] at h
  exact ⟨h.1, h.2.1, h.2.2.symm⟩
theorem runS_on {stp : St → Fra → St × Fra × Res} {n N : Nat} {s s' : St} {f : Fra} {r : Res} (h : runS stp (n + 1) s f = some (s', r, N)) (hd : (stp s f).2.2.dn = false) : ∃ M, runS stp n (stp s f).1 (stp s f).2.1 = some (s', r, M) ∧ N = M + 1 := by
  unfold runS at h
  rw [if_neg (by rw [hd]; decide)] at h
  cases h2 : runS stp n (stp s f).1 (stp s f).2.1 with
  | none => rw [h2] at h; simp at h
  | some x =>
    rw [h2] at h
    obtain ⟨a, b, c⟩ := x
    simp only [Option.map_some, Option.some.injEq, Prod.mk.injEq] at h
    obtain ⟨rfl, rfl, rfl⟩ := h
    exact ⟨c, rfl, rfl⟩
end Go.Proofs.YtheimjcgpbmecaaGreat

namespace Go.Proofs.YtheimjcgpbmecaaGreat
open Go Go.RowKit Go.Shelf
set_option linter.unusedSimpArgs false

/-- What Alone gives. -/
def Aloned (w : World) (p m k g cap : Nat) (s' : St) (t d : Int) (hd : List Value) (rv ev : Value) (q : Nat) (r : Res) (N : Nat) (e : Ending) (w' : World) : Prop :=
  e = .returned (.tuple #[.int .i64 r.cd, .int .i64 r.vl, .int .i64 N]) ∧ PE w' p m k g cap s' t d hd rv ev ∧ Fr [m, g, q] w w'

/-- What its loop keeps. -/
def AloR_pusher (w : World) (p m k g cap : Nat) (s' : St) (t d : Int) (hd : List Value) (rv ev : Value) (q : Nat) (r : Res) (N : Nat) (i : Value) (wr : World) : Prop :=
  ∃ (j : Nat) (s : St) (x : Fra), j ≤ 20 ∧ i = .int .i64 j ∧ PE wr p m k g cap s t d hd rv ev ∧ OB wr q 257 [.int .i64 x.fa] x 0 0 ∧ s.N ∧ PushOk x ∧ (∃ M, runS pushS (20 - j) s x = some (s', r, M) ∧ M + j = N) ∧ Fr [m, g, q] w wr
set_option maxRecDepth 100000 in
set_option maxHeartbeats 4000000 in
theorem alone_pusher {w : World} {p m k g cap : Nat} {s s' : St} {t d : Int} {hd : List Value} {rv ev : Value} {q : Nat} {x : Fra} {r : Res} {N : Nat} (hp : PE w p m k g cap s t d hd rv ev) (h : OB w q 257 [.int .i64 x.fa] x 0 0) (hn : s.N) (hk : PushOk x) (hr : runS pushS 20 s x = some (s', r, N)) :
    Calls Tryz.prog 58 #[.pointer (some ⟨p, 0, none⟩), .iface 252 (.pointer (some ⟨q, 0, none⟩)), .int .i64 20] w (Aloned w p m k g cap s' t d hd rv ev q r N) := by
  have HST := Lib.hid (show AloR_pusher w p m k g cap s' t d hd rv ev q r N (.int .i64 0) w from ⟨0, s, x, by omega, rfl, hp, h, hn, hk, ⟨N, hr, rfl⟩, Fr.refl _ _⟩)
  clear hp h hn hk hr
  have km := meth_step_pusher q
  have ka := ahead_step_pusher q
  have kr := meth_result_pusher q
  have kb := ahead_result_pusher q
  go_enter Tryz.func58, Tryz.ntmps58
  go_wp2_with fail
  go_loopw [8] (fun i wr => AloR_pusher w p m k g cap s' t d hd rv ev q r N i wr) (fun i _ => 20 - (intOf i).toNat)
  case atStart => exact HST.out
  case round =>
    clear HST
    obtain ⟨j, sj, x, hj, rfl, hp, ho, hn, hk, ⟨M, hr, hM⟩, hf⟩ := hrel
    have hj20 : j < 20 := by
      rcases Nat.lt_or_ge j 20 with h | h
      · exact h
      · obtain rfl : j = 20 := by omega
        simp [runS] at hr
    obtain ⟨l, hl⟩ : ∃ l, 20 - j = l + 1 := ⟨19 - j, by omega⟩
    rw [hl] at hr
    have HP := Lib.hid hp
    have HO := Lib.hid ho
    have HK := Lib.hid (And.intro hn (And.intro hk (And.intro hl hM)))
    have HR := Lib.hid hr
    have HF := Lib.hid hf
    clear hp ho hn hk hr hf hl hM
    have ej : wrap64 ((j : Int) + 1) = ((j + 1 : Nat) : Int) := by unfold wrap64; omega
    have hlt : (j : Int) < 20 := by omega
    have HS := Lib.hid (pusher_any HP.out HO.out HK.out.2.1.1 HK.out.2.1.2.1 HK.out.2.1.2.2.2)
    cases hdn : (pushS sj x).2.2.dn with
    | true =>
      obtain ⟨e1, e2, e3⟩ := runS_end HR.out hdn
      go_wp2_with fail
      (with_reducible refine HS.out.mono ?_)
      rintro e w1 ⟨rfl, hp1, hb1, hf1⟩
      have HB1 := Lib.hid hb1
      have HQ := Lib.hid (And.intro e1 (And.intro e2 e3))
      have HP1 := Lib.hid hp1
      have HF1 := Lib.hid (HF.out.trans hf1)
      clear hb1 hp1 hf1 e1 e2 e3
      rw [hdn]
      go_wp2_with fail
      (with_reducible refine (oresult_any HB1.out).mono ?_)
      rintro e w2 ⟨rfl, nd, rfl⟩
      go_wp2_with fail
      go_ret3
      obtain ⟨e1, e2, e3⟩ := HQ.out
      have eN : j + 1 = N := by have := HK.out.2.2.2; omega
      subst eN
      rw [← e2]
      have hP := HP1.out.drewN nd
      rw [e1] at hP
      exact ⟨rfl, hP, HF1.out.drewN nd⟩
    | false =>
      obtain ⟨M2, e1, e2⟩ := runS_on HR.out hdn
      have HQ := Lib.hid (And.intro e1 e2)
      clear e1 e2
      go_wp2_with fail
      (with_reducible refine HS.out.mono ?_)
      rintro e w1 ⟨rfl, hp1, hb1, hf1⟩
      rw [hdn] at hb1
      have HB1 := Lib.hid hb1
      have HP1 := Lib.hid hp1
      have HF1 := Lib.hid (HF.out.trans hf1)
      clear hb1 hp1 hf1
      rw [hdn]
      go_wp2_with fail
      go_roundw
      case rel =>
        obtain ⟨e1, e2⟩ := HQ.out
        have hz := push_keeps.z sj x hdn
        have hb := HB1.out
        simp only [Bool.false_eq_true, if_false] at hb
        rw [hz.1, hz.2] at hb
        refine ⟨j + 1, (pushS sj x).1, (pushS sj x).2.1, by omega, by go_num, HP1.out, ?_, push_keeps.n _ _ HK.out.1 HK.out.2.1, push_keeps.o _ _ HK.out.1 HK.out.2.1 hdn, ⟨M2, ?_, ?_⟩, HF1.out⟩
        · rw [(push_keeps.q sj x).1]
          exact hb
        · rw [show 20 - (j + 1) = l by have := HK.out.2.2.1; omega]
          exact e1
        · have := HK.out.2.2.2
          omega
      case measure => simp [intOf]; omega

/-- What its loop keeps. -/
def AloR_popper (w : World) (p m k g cap : Nat) (s' : St) (t d : Int) (hd : List Value) (rv ev : Value) (q : Nat) (r : Res) (N : Nat) (i : Value) (wr : World) : Prop :=
  ∃ (j : Nat) (s : St) (x : Fra), j ≤ 20 ∧ i = .int .i64 j ∧ PE wr p m k g cap s t d hd rv ev ∧ OB wr q 270 [] x 0 0 ∧ s.N ∧ PopOk x ∧ (∃ M, runS popS (20 - j) s x = some (s', r, M) ∧ M + j = N) ∧ Fr [m, g, q] w wr
set_option maxRecDepth 100000 in
set_option maxHeartbeats 4000000 in
theorem alone_popper {w : World} {p m k g cap : Nat} {s s' : St} {t d : Int} {hd : List Value} {rv ev : Value} {q : Nat} {x : Fra} {r : Res} {N : Nat} (hp : PE w p m k g cap s t d hd rv ev) (h : OB w q 270 [] x 0 0) (hn : s.N) (hk : PopOk x) (hr : runS popS 20 s x = some (s', r, N)) :
    Calls Tryz.prog 58 #[.pointer (some ⟨p, 0, none⟩), .iface 268 (.pointer (some ⟨q, 0, none⟩)), .int .i64 20] w (Aloned w p m k g cap s' t d hd rv ev q r N) := by
  have HST := Lib.hid (show AloR_popper w p m k g cap s' t d hd rv ev q r N (.int .i64 0) w from ⟨0, s, x, by omega, rfl, hp, h, hn, hk, ⟨N, hr, rfl⟩, Fr.refl _ _⟩)
  clear hp h hn hk hr
  have km := meth_step_popper q
  have ka := ahead_step_popper q
  have kr := meth_result_popper q
  have kb := ahead_result_popper q
  go_enter Tryz.func58, Tryz.ntmps58
  go_wp2_with fail
  go_loopw [8] (fun i wr => AloR_popper w p m k g cap s' t d hd rv ev q r N i wr) (fun i _ => 20 - (intOf i).toNat)
  case atStart => exact HST.out
  case round =>
    clear HST
    obtain ⟨j, sj, x, hj, rfl, hp, ho, hn, hk, ⟨M, hr, hM⟩, hf⟩ := hrel
    have hj20 : j < 20 := by
      rcases Nat.lt_or_ge j 20 with h | h
      · exact h
      · obtain rfl : j = 20 := by omega
        simp [runS] at hr
    obtain ⟨l, hl⟩ : ∃ l, 20 - j = l + 1 := ⟨19 - j, by omega⟩
    rw [hl] at hr
    have HP := Lib.hid hp
    have HO := Lib.hid ho
    have HK := Lib.hid (And.intro hn (And.intro hk (And.intro hl hM)))
    have HR := Lib.hid hr
    have HF := Lib.hid hf
    clear hp ho hn hk hr hf hl hM
    have ej : wrap64 ((j : Int) + 1) = ((j + 1 : Nat) : Int) := by unfold wrap64; omega
    have hlt : (j : Int) < 20 := by omega
    have HS := Lib.hid (popper_any HP.out HO.out HK.out.2.1.1 HK.out.2.1.2.2.2)
    cases hdn : (popS sj x).2.2.dn with
    | true =>
      obtain ⟨e1, e2, e3⟩ := runS_end HR.out hdn
      go_wp2_with fail
      (with_reducible refine HS.out.mono ?_)
      rintro e w1 ⟨rfl, hp1, hb1, hf1⟩
      have HB1 := Lib.hid hb1
      have HQ := Lib.hid (And.intro e1 (And.intro e2 e3))
      have HP1 := Lib.hid hp1
      have HF1 := Lib.hid (HF.out.trans hf1)
      clear hb1 hp1 hf1 e1 e2 e3
      rw [hdn]
      go_wp2_with fail
      (with_reducible refine (oresult_any HB1.out).mono ?_)
      rintro e w2 ⟨rfl, nd, rfl⟩
      go_wp2_with fail
      go_ret3
      obtain ⟨e1, e2, e3⟩ := HQ.out
      have eN : j + 1 = N := by have := HK.out.2.2.2; omega
      subst eN
      rw [← e2]
      have hP := HP1.out.drewN nd
      rw [e1] at hP
      exact ⟨rfl, hP, HF1.out.drewN nd⟩
    | false =>
      obtain ⟨M2, e1, e2⟩ := runS_on HR.out hdn
      have HQ := Lib.hid (And.intro e1 e2)
      clear e1 e2
      go_wp2_with fail
      (with_reducible refine HS.out.mono ?_)
      rintro e w1 ⟨rfl, hp1, hb1, hf1⟩
      rw [hdn] at hb1
      have HB1 := Lib.hid hb1
      have HP1 := Lib.hid hp1
      have HF1 := Lib.hid (HF.out.trans hf1)
      clear hb1 hp1 hf1
      rw [hdn]
      go_wp2_with fail
      go_roundw
      case rel =>
        obtain ⟨e1, e2⟩ := HQ.out
        have hz := pop_keeps.z sj x hdn
        have hb := HB1.out
        simp only [Bool.false_eq_true, if_false] at hb
        rw [hz.1, hz.2] at hb
        refine ⟨j + 1, (popS sj x).1, (popS sj x).2.1, by omega, by go_num, HP1.out, ?_, pop_keeps.n _ _ HK.out.1 HK.out.2.1, pop_keeps.o _ _ HK.out.1 HK.out.2.1 hdn, ⟨M2, ?_, ?_⟩, HF1.out⟩
        · exact hb
        · rw [show 20 - (j + 1) = l by have := HK.out.2.2.1; omega]
          exact e1
        · have := HK.out.2.2.2
          omega
      case measure => simp [intOf]; omega

end Go.Proofs.YtheimjcgpbmecaaGreat
